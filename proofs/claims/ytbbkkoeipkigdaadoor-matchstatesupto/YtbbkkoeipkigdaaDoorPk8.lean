/- Texts that several proofs of this seat share, one behind the other: HPair QChk CRef CRef2 DEach QEach QBin DFind RRef. -/
import Derived.Test.YtbbkkoeipkigdaaDoorPk7
import Derived.Test.YtbbkkoeipkigdaaDoorShelf
import Derived.Test.YtbbkkoeipkigdaaDoorPk6
import Derived.BigQuiet
import Derived.Deep.RegionHeld3
import Derived.WalkMore
import Derived.Deep.LoopGhost
import Derived.BigRegion
import Derived.Shelf.SlSortCmp.QuietGrown
import Derived.Shelf.SlSorted.Search
import Derived.Test.YtbbkkoeipkigdaaDoorShelf2
/- block.Pair: the blocks of two tokens, or why one of them is none; what block's functions answer, in every world; the examples of layer 5. -/
namespace Go.Proofs.YtbbkkoeipkigdaaDoor
open Go.RowKit Go.Shelf

theorem chk_at (b : Blk) (h1 : b.1.size * 4 ≤ 140737488355328) (h2 : b.2.1.size * 4 ≤ 140737488355328) : ChkAt b := fun w h => chk_any b.1 b.2.1 b.2.2 w h h1 h2
theorem less_at (a b : Blk) : LessAt a b := fun w _ => less_any a.1 a.2.1 b.1 b.2.1 a.2.2 b.2.2 w

theorem ex5 : tokErr2 [97, 114, 110] [97, 109] = 0 ∧ ofS (stepsS [97, 114, 110] [97, 109]) = [(⟨#[114, 110]⟩, ⟨#[109]⟩, 1)] := by
  have e1 : tokErr [97, 114, 110] = 0 := by decide +kernel
  have e2 : tokErr [97, 109] = 0 := by decide +kernel
  have e3 : tokErr2 [97, 114, 110] [97, 109] = 0 := tokErr2_of e1 e2
  have r1 : tokRunes [97, 114, 110] = [97, 114, 110] := by decide +kernel
  have r2 : tokRunes [97, 109] = [97, 109] := by decide +kernel
  refine ⟨e3, ?_⟩
  have l1 : levR [110, 114, 97] [109, 97] = 2 := by simp [levR_cons, levR_nil, levR_nil']
  have l2 : levR [114, 97] [97] = 1 := by simp [levR_cons, levR_nil, levR_nil']
  have l3 : levR [97] [97] = 0 := by simp [levR_cons, levR_nil, levR_nil']
  have l4 : levR [97] [] = 1 := by simp [levR_nil']
  have p : (pathR [110, 114, 97] [109, 97]).reverse = [(0, 97, 97), (2, 114, 0), (1, 110, 109)] := by
    rw [pathR_sub (by decide) (by rw [l1, l2]), pathR, if_neg (by decide), if_neg (by rw [l2, l4]; decide), if_pos (by rw [l2, l3]), pathR_same, pathR]
    rfl
  have hs : stepsS [97, 114, 110] [97, 109] = [(0, 97, 97), (2, 114, 0), (1, 110, 109)] := by
    rw [stepsS, if_pos e3, r1, r2]; exact p
  rw [hs]
  have hr : rowsP [((0 : Int), (97 : Int), (97 : Int)), (2, 114, 0), (1, 110, 109)] = [[(2, 114, 0), (1, 110, 109)]] := by
    rw [rowsP_match rfl, rowsP_one (by simp) (by simp)]
  rw [ofS, if_pos (by decide +kernel), hr]
  have hA : readA [(2, 114, 0), (1, 110, 109)] = [114, 110] := by decide +kernel
  have hB : readB [(2, 114, 0), (1, 110, 109)] = [109] := by decide +kernel
  have hl : longB [(2, 114, 0), (1, 110, 109)] = false := by decide +kernel
  have hd : diffB [(2, 114, 0), (1, 110, 109)] = true := by decide +kernel
  simp [hl, hd, blkOf, hA, hB, mkB]

end Go.Proofs.YtbbkkoeipkigdaaDoor

/- rule.sides, Check, Less, compare, cheaper: what each answers; where a sort asks, the world behind the call is told to the block. -/
namespace Go.Proofs.YtbbkkoeipkigdaaDoor
open Go.RowKit Go.Shelf Go.Lib
open Go.Sort (grow alloc_eq_grow grow_grow)
set_option linter.unusedSimpArgs false
set_option linter.unusedVariables false

theorem blw_one (D : World) (o : Obj) : Below D.heap.size D (D.alloc o) := (Below.refl _ _).alloc (Nat.le_refl _) _
set_option maxRecDepth 100000 in
set_option maxHeartbeats 4000000 in
theorem sides_lays (a b : ByteArray) (N : Int) (w : World) :
    Calls Tryd.prog 69 #[.agg #[.string a, .string b, .int .i64 N]] w fun e w' => e = .returned (.agg #[.string a, .string b, .int .i64 1]) ∧ ∃ q os, w' = grow (w.drewN q) os := by
  have h1 : Hid (∀ o : Obj, ∃ q os, w.alloc o = grow (w.drewN q) os) := Lib.hid (fun o => ⟨0, _, by rw [alloc_eq_grow]; rfl⟩)
  have h2 : Hid (∀ o o' : Obj, ∃ q os, (w.alloc o).alloc o' = grow (w.drewN q) os) := Lib.hid (fun o o' => ⟨0, _, by rw [alloc_eq_grow, alloc_eq_grow, grow_grow]; rfl⟩)
  go_enter Tryd.func69, Tryd.ntmps69
  go_wp2
  refine bodyPost_ret (v := .agg #[.string a, .string b, .int .i64 1]) ?_ rfl ⟨rfl, h2.out _ _⟩
  simp [results, Tryd.f69, go_sem]

set_option maxRecDepth 100000 in
set_option maxHeartbeats 4000000 in
theorem rcheck_any (a b : ByteArray) (N : Int) (w : World) (hO : Okw w) (ha : a.size ≤ 2000000) (hb : b.size ≤ 2000000) :
    Calls Tryd.prog 79 #[.agg #[.string a, .string b, .int .i64 N]] w fun e w' => e = .returned (.int .i64 (rchk (a, b, N))) ∧ Below w.heap.size w w' := by
  have cs := fun w => sides_lays a b N w
  have c5 := fun w hO => chk_at (a, b, 1) (by show a.size * 4 ≤ _; omega) (by show b.size * 4 ≤ _; omega) w hO
  have hR : rchk (a, b, N) = if chkS (a, b, 1) = 0 then (if N < 1 ∨ 255 < N then 2 else 0) else chkS (a, b, 1) := rfl
  obtain ⟨res, hres⟩ : ∃ r, rchk (a, b, N) = r := ⟨_, rfl⟩
  obtain ⟨er, her⟩ : ∃ r, chkS (a, b, 1) = r := ⟨_, rfl⟩
  rw [hres] at hR ⊢
  rw [her] at hR
  simp only [her] at c5
  obtain ⟨a0, a1, a2⟩ := cells3_new w (.string a) (.string b) (.int .i64 N) 55
  have hal := blw_one w (.cells #[.string a, .string b, .int .i64 N] 55)
  have hlt : w.heap.size < (w.alloc (.cells #[.string a, .string b, .int .i64 N] 55)).heap.size := by simp
  obtain ⟨W1, hW1⟩ : ∃ z, w.alloc (.cells #[.string a, .string b, .int .i64 N] 55) = z := ⟨_, rfl⟩
  rw [hW1] at a0 a1 a2 hal hlt
  obtain ⟨bx, hbx⟩ : ∃ z, w.heap.size = z := ⟨_, rfl⟩
  rw [hbx] at a0 a1 a2 hlt
  have HW1 := Lib.hid hW1; have HBX := Lib.hid hbx; have HAL := Lib.hid hal; have CS := Lib.hid cs; have C5 := Lib.hid c5; have HR := Lib.hid hR; have HO1 : Hid (Okw W1) := Lib.hid (hO.below hal)
  clear hW1 hbx hal cs c5 hR hres her hO
  go_enter Tryd.func79, Tryd.ntmps79
  go_wp2_with fail
  rw [HW1.out]
  refine (CS.out _).mono ?_
  rintro e w1 ⟨rfl, q1, o1, hw1⟩
  have b1 : Below W1.heap.size W1 w1 := by rw [hw1]; exact below_grows _ _ _
  have K1 : Hid (Okw w1) := Lib.hid (HO1.out.below b1)
  have B1 := Lib.hid b1; clear b1 hw1
  go_wp2_with fail
  refine (C5.out _ K1.out).mono ?_
  rintro e w2 ⟨rfl, b2⟩
  have b12 := B1.out.trans (b2.mono B1.out.size)
  rw [HBX.out]
  have d2 := (b12.cell (p := ⟨bx, 2, none⟩) hlt).trans a2
  have B2 : Hid (Below w.heap.size w w2) := Lib.hid (HAL.out.trans (b12.mono HAL.out.size))
  clear b2 b12 a0 a1 a2 B1
  by_cases h0 : er = 0
  · subst h0
    by_cases h1 : N < 1
    · have hr : Hid (res = 2) := Lib.hid (by rw [HR.out, if_pos (by first | rfl | trivial), if_pos (.inl h1)])
      go_wp2
      go_ret
      exact ⟨by rw [hr.out]; rfl, B2.out⟩
    · by_cases h2 : 255 < N
      · have hr : Hid (res = 2) := Lib.hid (by rw [HR.out, if_pos (by first | rfl | trivial), if_pos (.inr h2)])
        go_wp2
        go_ret
        exact ⟨by rw [hr.out]; rfl, B2.out⟩
      · have hr : Hid (res = 0) := Lib.hid (by rw [HR.out, if_pos (by first | rfl | trivial), if_neg (by omega)])
        go_wp2
        go_ret
        exact ⟨by rw [hr.out]; rfl, B2.out⟩
  · have h0' : (er == 0) = false := by simpa using h0
    have hr : Hid (res = er) := Lib.hid (by rw [HR.out, if_neg h0])
    go_wp2
    go_ret
    exact ⟨by rw [hr.out]; rfl, B2.out⟩

/-- Two rules in their boxes. -/
structure TwoBox (w : World) (p : Nat) (x y : Blk) (w' : World) : Prop where
  a0 : w'.cell? ⟨p, 0, none⟩ = some (.string x.1)
  a1 : w'.cell? ⟨p, 1, none⟩ = some (.string x.2.1)
  a2 : w'.cell? ⟨p, 2, none⟩ = some (.int .i64 x.2.2)
  b0 : w'.cell? ⟨p + 1, 0, none⟩ = some (.string y.1)
  b1 : w'.cell? ⟨p + 1, 1, none⟩ = some (.string y.2.1)
  b2 : w'.cell? ⟨p + 1, 2, none⟩ = some (.int .i64 y.2.2)
  gr : ∃ q os, w' = grow (w.drewN q) os
theorem TwoBox.step {w w' w'' : World} {p : Nat} {x y : Blk} (h : TwoBox w p x y w') (hg : ∃ q os, w'' = grow (w'.drewN q) os) : TwoBox w p x y w'' := by
  obtain ⟨q, os, rfl⟩ := hg
  exact ⟨grow_cell _ _ h.a0, grow_cell _ _ h.a1, grow_cell _ _ h.a2, grow_cell _ _ h.b0, grow_cell _ _ h.b1, grow_cell _ _ h.b2, by obtain ⟨q', os', e⟩ := h.gr; rw [e]; exact grow_more _ _ _ _ _⟩
theorem twoBox (w : World) (x y : Blk) : TwoBox w w.heap.size x y ((w.alloc (.cells #[.string x.1, .string x.2.1, .int .i64 x.2.2] 55)).alloc (.cells #[.string y.1, .string y.2.1, .int .i64 y.2.2] 55)) := by
  obtain ⟨a0, a1, a2⟩ := cells3_new w (.string x.1) (.string x.2.1) (.int .i64 x.2.2) 55
  obtain ⟨b0, b1, b2⟩ := cells3_new (w.alloc (.cells #[.string x.1, .string x.2.1, .int .i64 x.2.2] 55)) (.string y.1) (.string y.2.1) (.int .i64 y.2.2) 55
  rw [World.size_alloc] at b0 b1 b2
  have hb := blw_one (w.alloc (.cells #[.string x.1, .string x.2.1, .int .i64 x.2.2] 55)) (.cells #[.string y.1, .string y.2.1, .int .i64 y.2.2] 55)
  exact ⟨cell_kept hb a0, cell_kept hb a1, cell_kept hb a2, b0, b1, b2, 0, _, by rw [alloc_eq_grow, alloc_eq_grow, grow_grow]; rfl⟩

set_option maxRecDepth 100000 in
set_option maxHeartbeats 4000000 in
theorem rless_lays (a b c d : ByteArray) (N M : Int) (w : World) :
    Calls Tryd.prog 50 #[.agg #[.string a, .string b, .int .i64 N], .agg #[.string c, .string d, .int .i64 M]] w fun e w' => e = .returned (.bool (lessB (a, b, N) (c, d, M))) ∧ ∃ q os, w' = grow (w.drewN q) os := by
  have c1 := fun w => sides_lays a b N w
  have c2 := fun w => sides_lays c d M w
  have c3 := fun w => less_lays a b c d 1 1 w
  have e0 : lessB (a, b, 1) (c, d, 1) = lessB (a, b, N) (c, d, M) := rfl
  obtain ⟨r, hr⟩ : ∃ r, lessB (a, b, N) (c, d, M) = r := ⟨_, rfl⟩
  rw [hr] at e0 ⊢
  simp only [e0] at c3
  have C1 := Lib.hid c1; have C2 := Lib.hid c2; have C3 := Lib.hid c3
  clear c1 c2 c3 e0 hr
  have T := twoBox w (a, b, N) (c, d, M)
  simp only at T
  obtain ⟨W2, hW2⟩ : ∃ z, (w.alloc (.cells #[.string a, .string b, .int .i64 N] 55)).alloc (.cells #[.string c, .string d, .int .i64 M] 55) = z := ⟨_, rfl⟩
  rw [hW2] at T
  have HW2 := Lib.hid hW2; clear hW2
  have a0 := T.a0; have a1 := T.a1; have a2 := T.a2; have b0 := T.b0; have b1 := T.b1; have b2 := T.b2
  simp only at a0 a1 a2 b0 b1 b2
  have HT := Lib.hid T; clear T
  have F : ∀ q os, TwoBox w w.heap.size (a, b, N) (c, d, M) (grow (W2.drewN q) os) := fun q os => HT.out.step ⟨q, os, rfl⟩
  have F0 := fun q os => (F q os).a0; have F1 := fun q os => (F q os).a1; have F2 := fun q os => (F q os).a2; have F3 := fun q os => (F q os).b0; have F4 := fun q os => (F q os).b1; have F5 := fun q os => (F q os).b2
  simp only at F0 F1 F2 F3 F4 F5
  clear F
  have hmix : Tryd.prog.follows .mixedOrders = true := by kernel_rfl
  go_enter Tryd.func50, Tryd.ntmps50
  go_wp2
  rw [HW2.out]
  go_quiet_grown (first | (go_at_call 69; refine Calls.grown_of (C1.out _)) | (go_at_call 69; refine Calls.grown_of (C2.out _)) | (go_at_call 68; refine Calls.grown_of (C3.out _)) | refine Calls.grown_of (C1.out _) | refine Calls.grown_of (C2.out _) | refine Calls.grown_of (C3.out _))
  go_wp2
  go_ret
  exact ⟨rfl, (HT.out.step ⟨_, _, rfl⟩).gr⟩

set_option maxRecDepth 100000 in
set_option maxHeartbeats 4000000 in
theorem compare_lays (x y : Blk) (w : World) :
    Calls Tryd.prog 48 #[.agg (blkCell x).toArray, .agg (blkCell y).toArray] w fun e w' => e = .returned (.int .i64 (cmpB x y)) ∧ ∃ q os, w' = grow (w.drewN q) os := by
  obtain ⟨x1, x2, x3⟩ := x
  obtain ⟨y1, y2, y3⟩ := y
  show Calls Tryd.prog 48 #[.agg #[.string x1, .string x2, .int .i64 x3], .agg #[.string y1, .string y2, .int .i64 y3]] w _
  have c1 := fun w => rless_lays x1 x2 y1 y2 x3 y3 w
  have c2 := fun w => rless_lays y1 y2 x1 x2 y3 x3 w
  obtain ⟨r, hr⟩ : ∃ r, cmpB (x1, x2, x3) (y1, y2, y3) = r := ⟨_, rfl⟩
  rw [hr]
  unfold cmpB at hr
  obtain ⟨l1, hl1⟩ : ∃ z, lessB (x1, x2, x3) (y1, y2, y3) = z := ⟨_, rfl⟩
  obtain ⟨l2, hl2⟩ : ∃ z, lessB (y1, y2, y3) (x1, x2, x3) = z := ⟨_, rfl⟩
  rw [hl1, hl2] at hr
  simp only [hl1] at c1
  simp only [hl2] at c2
  have HR := Lib.hid hr; have C1 := Lib.hid c1; have C2 := Lib.hid c2
  clear hr c1 c2 hl1 hl2
  have T := twoBox w (x1, x2, x3) (y1, y2, y3)
  simp only at T
  obtain ⟨W2, hW2⟩ : ∃ z, (w.alloc (.cells #[.string x1, .string x2, .int .i64 x3] 55)).alloc (.cells #[.string y1, .string y2, .int .i64 y3] 55) = z := ⟨_, rfl⟩
  rw [hW2] at T
  have HW2 := Lib.hid hW2; clear hW2
  have a0 := T.a0; have a1 := T.a1; have a2 := T.a2; have b0 := T.b0; have b1 := T.b1; have b2 := T.b2
  simp only at a0 a1 a2 b0 b1 b2
  have HT := Lib.hid T; clear T
  go_enter Tryd.func48, Tryd.ntmps48
  go_wp2_with fail
  rw [HW2.out]
  refine (C1.out _).mono ?_
  rintro e w1 ⟨rfl, hg1⟩
  have T1 := Lib.hid (HT.out.step hg1)
  clear a0 a1 a2 b0 b1 b2 hg1 HT
  have a0 := T1.out.a0; have a1 := T1.out.a1; have a2 := T1.out.a2; have b0 := T1.out.b0; have b1 := T1.out.b1; have b2 := T1.out.b2
  simp only at a0 a1 a2 b0 b1 b2
  cases l1
  · go_wp2_with fail
    refine (C2.out _).mono ?_
    rintro e w2 ⟨rfl, hg2⟩
    have T2 := Lib.hid (T1.out.step hg2)
    clear a0 a1 a2 b0 b1 b2 hg2 T1
    cases l2
    · have hr : Hid (r = 0) := Lib.hid (by rw [← HR.out]; rfl)
      go_wp2
      go_ret
      exact ⟨by rw [hr.out]; rfl, T2.out.gr⟩
    · have hr : Hid (r = 1) := Lib.hid (by rw [← HR.out]; rfl)
      go_wp2
      go_ret
      exact ⟨by rw [hr.out]; rfl, T2.out.gr⟩
  · have hr : Hid (r = -1) := Lib.hid (by rw [← HR.out]; rfl)
    clear a0 a1 a2 b0 b1 b2
    go_wp2
    go_ret
    exact ⟨by rw [hr.out]; rfl, T1.out.gr⟩

set_option maxRecDepth 100000 in
set_option maxHeartbeats 4000000 in
theorem cheaper_lays (x y : Blk) (w : World) :
    Calls Tryd.prog 45 #[.agg (blkCell x).toArray, .agg (blkCell y).toArray] w fun e w' => e = .returned (.int .i64 (cmpR x y)) ∧ ∃ q os, w' = grow (w.drewN q) os := by
  have c1 := fun w => compare_lays x y w
  obtain ⟨x1, x2, x3⟩ := x
  obtain ⟨y1, y2, y3⟩ := y
  simp only [blkCell] at c1 ⊢
  obtain ⟨r, hr⟩ : ∃ r, cmpR (x1, x2, x3) (y1, y2, y3) = r := ⟨_, rfl⟩
  rw [hr]
  unfold cmpR at hr
  obtain ⟨l1, hl1⟩ : ∃ z, cmpB (x1, x2, x3) (y1, y2, y3) = z := ⟨_, rfl⟩
  rw [hl1] at hr
  simp only [hl1] at c1
  have c2 := fun w => Tryd.cmp_Compare_int x3 y3 w
  have HR := Lib.hid hr; have C1 := Lib.hid c1; have C2 := Lib.hid c2
  clear hr c1 c2 hl1
  have T := twoBox w (x1, x2, x3) (y1, y2, y3)
  simp only at T
  obtain ⟨W2, hW2⟩ : ∃ z, (w.alloc (.cells #[.string x1, .string x2, .int .i64 x3] 55)).alloc (.cells #[.string y1, .string y2, .int .i64 y3] 55) = z := ⟨_, rfl⟩
  rw [hW2] at T
  have HW2 := Lib.hid hW2; clear hW2
  have a0 := T.a0; have a1 := T.a1; have a2 := T.a2; have b0 := T.b0; have b1 := T.b1; have b2 := T.b2
  simp only at a0 a1 a2 b0 b1 b2
  have HT := Lib.hid T; clear T
  go_enter Tryd.func45, Tryd.ntmps45
  go_wp2_with fail
  rw [HW2.out]
  refine (C1.out _).mono ?_
  rintro e w1 ⟨rfl, hg1⟩
  have T1 := Lib.hid (HT.out.step hg1)
  clear a0 a1 a2 b0 b1 b2 hg1 HT
  have a2 := T1.out.a2; have b2 := T1.out.b2
  simp only at a2 b2
  by_cases h0 : l1 = 0
  · subst h0
    have hr : Hid (compareInt x3 y3 = r) := Lib.hid (by have := HR.out; rwa [if_pos (by first | rfl | trivial)] at this)
    go_wp2_with fail
    refine (C2.out _).mono ?_
    rintro e w2 ⟨rfl, rfl⟩
    go_wp2
    go_ret
    exact ⟨by rw [← hr.out]; rfl, T1.out.gr⟩
  · have h0' : (l1 == 0) = false := by simpa using h0
    have hr : Hid (l1 = r) := Lib.hid (by have := HR.out; rwa [if_neg h0] at this)
    go_wp2
    go_ret
    exact ⟨by rw [hr.out]; rfl, T1.out.gr⟩
set_option maxRecDepth 100000 in
set_option maxHeartbeats 4000000 in
theorem eq_lays (x y : Blk) (w : World) :
    Calls Tryd.prog 47 #[.agg (blkCell x).toArray, .agg (blkCell y).toArray] w fun e w' => e = .returned (.bool (decide (sameS x y))) ∧ ∃ q os, w' = grow (w.drewN q) os := by
  have c1 := fun w => compare_lays x y w
  have hd : decide (sameS x y) = (cmpB x y == 0) := by
    unfold cmpB
    rcases less_one x y with ⟨h1, h2, h3⟩ | ⟨h1, h2, h3⟩ | ⟨h1, h2, h3⟩ <;> simp [h1, h2, h3]
  obtain ⟨x1, x2, x3⟩ := x
  obtain ⟨y1, y2, y3⟩ := y
  simp only [blkCell] at c1 ⊢
  rw [hd]
  obtain ⟨l1, hl1⟩ : ∃ z, cmpB (x1, x2, x3) (y1, y2, y3) = z := ⟨_, rfl⟩
  rw [hl1]
  simp only [hl1] at c1
  have C1 := Lib.hid c1
  clear c1 hl1 hd
  have T := twoBox w (x1, x2, x3) (y1, y2, y3)
  simp only at T
  obtain ⟨W2, hW2⟩ : ∃ z, (w.alloc (.cells #[.string x1, .string x2, .int .i64 x3] 55)).alloc (.cells #[.string y1, .string y2, .int .i64 y3] 55) = z := ⟨_, rfl⟩
  rw [hW2] at T
  have HW2 := Lib.hid hW2; clear hW2
  have a0 := T.a0; have a1 := T.a1; have a2 := T.a2; have b0 := T.b0; have b1 := T.b1; have b2 := T.b2
  simp only at a0 a1 a2 b0 b1 b2
  have HT := Lib.hid T; clear T
  go_enter Tryd.func47, Tryd.ntmps47
  go_wp2_with fail
  rw [HW2.out]
  refine (C1.out _).mono ?_
  rintro e w1 ⟨rfl, hg1⟩
  have T1 := Lib.hid (HT.out.step hg1)
  clear a0 a1 a2 b0 b1 b2 hg1 HT
  go_wp2
  go_ret
  exact ⟨rfl, T1.out.gr⟩
end Go.Proofs.YtbbkkoeipkigdaaDoor

/- errataref06.Sum, Check, Total, Find: what each answers. -/
namespace Go.Proofs.YtbbkkoeipkigdaaDoor
open Go.RowKit Go.Shelf

/-- Blocks whose Ns may be. -/
def okN (l : List Blk) : Prop := ∀ b ∈ l, 1 ≤ b.2.2 ∧ b.2.2 ≤ 1073741824
theorem okN_of {l : List Blk} (h : chkAll l = 0) : okN l := fun b hb => chkS_n (chkAll_zero.1 h b hb)
theorem sumN_take {l : List Blk} (k : Nat) (x : Blk) (h : l[k]? = some x) : sumN (l.take (k + 1)) = sumN (l.take k) + x.2.2 := by
  rw [List.take_add_one, h, sumN_append]; simp [sumN]
theorem sumN_bound {l : List Blk} (h : okN l) (k : Nat) : 0 ≤ sumN (l.take k) ∧ sumN (l.take k) ≤ (k : Int) * 1073741824 := by
  induction k with
  | zero => simp [sumN]
  | succ k ih =>
    cases hx : l[k]? with
    | none => rw [List.take_add_one, hx]; simp; omega
    | some x =>
      have := h x (List.mem_of_getElem? hx)
      rw [sumN_take k x hx]; omega

/-- Blocks whose texts aren't too great. -/
def szB (l : List Blk) : Prop := ∀ b ∈ l, b.1.size ≤ 1000000 ∧ b.2.1.size ≤ 1000000
theorem chkAll_take {l : List Blk} (k : Nat) (x : Blk) (h : l[k]? = some x) (h0 : chkAll (l.take k) = 0) : (chkS x = 0 → chkAll (l.take (k + 1)) = 0) ∧ (chkS x ≠ 0 → chkAll l = chkS x) := by
  refine ⟨fun hx => ?_, fun hx => ?_⟩
  · rw [List.take_add_one, h, chkAll_append, if_pos h0]; simp [chkAll, hx]
  · have e : l = l.take k ++ x :: l.drop (k + 1) := by
      have hk := (List.getElem?_eq_some_iff.1 h).1
      have hx2 := (List.getElem?_eq_some_iff.1 h).2
      rw [← hx2, ← List.drop_eq_getElem_cons hk, List.take_append_drop]
    rw [e, chkAll_append, if_pos h0, chkAll, if_neg hx]
/-- A row in order so far, and the next one. -/
theorem ordB_take {l : List Blk} (k : Nat) (y x : Blk) (hy : l[k]? = some y) (hx : l[k + 1]? = some x) (h0 : ordB (l.take (k + 1)) = true) : (lessB y x = true → ordB (l.take (k + 1 + 1)) = true) ∧ (lessB y x = false → ordB l = false) := by
  have h1 : Srt (l.take (k + 1)) := (ordB_srt _).1 h0
  have app : ∀ (a : List Blk) (z : Blk), Srt a → (∀ b ∈ a, lessB b z = true) → Srt (a ++ [z]) := by
    intro a z
    induction a with
    | nil => exact fun _ _ => ⟨fun b hb => by simp at hb, trivial⟩
    | cons c a ih =>
      intro hs hz
      refine ⟨fun b hb => ?_, ih hs.2 (fun b hb => hz b (by simp [hb]))⟩
      rcases List.mem_append.1 hb with hb | hb
      · exact hs.1 b hb
      · obtain rfl : b = z := by simpa using hb
        exact hz c (by simp)
  have last : ∀ (a : List Blk) (z : Blk), Srt (a ++ [z]) → ∀ b ∈ a, lessB b z = true := by
    intro a z
    induction a with
    | nil => intro _ b hb; simp at hb
    | cons c a ih =>
      intro hs b hb
      rcases List.mem_cons.1 hb with rfl | hb
      · exact hs.1 z (by simp)
      · exact ih hs.2 b hb
  have e1 : l.take (k + 1) = l.take k ++ [y] := by rw [List.take_add_one, hy]; rfl
  have e2 : l.take (k + 1 + 1) = l.take (k + 1) ++ [x] := by rw [List.take_add_one, hx]; rfl
  refine ⟨fun h => ?_, fun h => ?_⟩
  · rw [ordB_srt, e2]
    refine app _ _ h1 (fun b hb => ?_)
    rw [e1] at hb h1
    rcases List.mem_append.1 hb with hb | hb
    · exact less_on b y x (last _ _ h1 b hb) h
    · obtain rfl : b = y := by simpa using hb
      exact h
  · cases ho : ordB l with
    | false => rfl
    | true =>
      exfalso
      have hs : Srt l := (ordB_srt l).1 ho
      have pre : ∀ (a c : List Blk), Srt (a ++ c) → Srt a := by
        intro a
        induction a with
        | nil => exact fun _ _ => trivial
        | cons d a ih => exact fun c hs => ⟨fun b hb => hs.1 b (by simp [hb]), ih c hs.2⟩
      have h2 : Srt (l.take (k + 1 + 1)) := pre _ (l.drop (k + 1 + 1)) (by rw [List.take_append_drop]; exact hs)
      rw [e2, e1] at h2
      have := last _ _ h2 y (by simp)
      rw [h] at this; cases this
theorem ordB_one (l : List Blk) : ordB (l.take 1) = true := by
  cases l with
  | nil => rfl
  | cons a l => rfl

/-- What a region with a call that makes memory keeps: two blocks of a row, all that is old. -/
structure KRow (w : World) (b p q : Nat) (y x : Blk) (w' : World) : Prop where
  a0 : w'.cell? ⟨b, p, none⟩ = some (.string y.1)
  a1 : w'.cell? ⟨b, p + 1, none⟩ = some (.string y.2.1)
  a2 : w'.cell? ⟨b, p + 2, none⟩ = some (.int .i64 y.2.2)
  b0 : w'.cell? ⟨b, q, none⟩ = some (.string x.1)
  b1 : w'.cell? ⟨b, q + 1, none⟩ = some (.string x.2.1)
  b2 : w'.cell? ⟨b, q + 2, none⟩ = some (.int .i64 x.2.2)
  lt : b < w'.heap.size
  bel : Below w.heap.size w w'
theorem KRow.step {w : World} {b p q : Nat} {y x : Blk} {w' w'' : World} (h : KRow w b p q y x w') (hb : Below w'.heap.size w' w'') : KRow w b p q y x w'' :=
  ⟨(hb.cell (p := ⟨b, _, none⟩) h.lt).trans h.a0, (hb.cell (p := ⟨b, _, none⟩) h.lt).trans h.a1, (hb.cell (p := ⟨b, _, none⟩) h.lt).trans h.a2, (hb.cell (p := ⟨b, _, none⟩) h.lt).trans h.b0, (hb.cell (p := ⟨b, _, none⟩) h.lt).trans h.b1, (hb.cell (p := ⟨b, _, none⟩) h.lt).trans h.b2, Nat.lt_of_lt_of_le h.lt hb.size, h.bel.trans (hb.mono h.bel.size)⟩

end Go.Proofs.YtbbkkoeipkigdaaDoor

/- errataref06.Total, Find: what each answers. -/
namespace Go.Proofs.YtbbkkoeipkigdaaDoor
open Go.RowKit Go.Shelf

theorem cnt_key {l : List Blk} {a b : Blk} (h : sameS a b) : cnt l a = cnt l b := by
  unfold cnt
  congr 1
  refine List.map_congr_left (fun z _ => ?_)
  by_cases h1 : sameS z a
  · rw [if_pos h1, if_pos ⟨h1.1.trans h.1, h1.2.trans h.2⟩]
  · rw [if_neg h1, if_neg (fun e => h1 ⟨e.1.trans h.1.symm, e.2.trans h.2.symm⟩)]
theorem srt_mem_cnt {l : List Blk} (h : Srt l) : ∀ x ∈ l, cnt l x = x.2.2 := by
  induction l with
  | nil => simp
  | cons a l ih =>
    intro x hx
    rw [cnt_cons]
    rcases List.mem_cons.1 hx with rfl | hx
    · rw [if_pos ⟨rfl, rfl⟩, srt_cons_cnt h]; omega
    · rw [if_neg (less_not (h.1 x hx)).2, ih h.2 x hx]; omega

end Go.Proofs.YtbbkkoeipkigdaaDoor

/- count.each, sum, Check, Total: what each answers. -/
namespace Go.Proofs.YtbbkkoeipkigdaaDoor
open Go.RowKit Go.Shelf
set_option linter.unusedSimpArgs false
set_option linter.unusedVariables false

/-- Blocks whose texts are no longer than so much. -/
def szL (l : List Blk) : Prop := ∀ b ∈ l, b.1.size ≤ 2000000 ∧ b.2.1.size ≤ 2000000
theorem szL_of {l : List Blk} (h : szB l) : szL l := fun b hb => by have := h b hb; omega
theorem sumN_take_le {l : List Blk} (h : posN l) (k : Nat) : sumN (l.take k) ≤ sumN l := by
  have e : sumN l = sumN (l.take k) + sumN (l.drop k) := by rw [← sumN_append, List.take_append_drop]
  have := sumN_nonneg (l := l.drop k) (fun b hb => h b (List.mem_of_mem_drop hb))
  omega

end Go.Proofs.YtbbkkoeipkigdaaDoor

/- rule.checks, each: the errors of rules, handed on as they stand; the first one. -/
namespace Go.Proofs.YtbbkkoeipkigdaaDoor
open Go.RowKit Go.Shelf
attribute [local go_sem] Oper.semAt_some
set_option linter.unusedSimpArgs false
set_option linter.unusedVariables false

set_option maxRecDepth 100000 in
set_option maxHeartbeats 8000000 in
theorem checks_in (n : Nat) (hn : 1 ≤ n) (l Bs n₀ : Nat) (A : Option Addr) (N c : Nat) (L : List Blk) (hN : L.length = N) (hL : N ≤ 2000000) (hz : szL L) (w0 : World) (hw0 : w0.heap.size = n₀) (hO : Okw w0) (hx : BRuns w0 (.slice A N c) L) (J Jx : List Int → World → Prop)
    (W : World) (hJ : AbidesFrom W.heap.size J)
    (hY : ∀ pre x W1, J pre W1 → pre.length < N → YieldAt Fence.wide (n - 1) Tryd.prog l #[.int .i64 x] W1 fun e W' =>
      (e = .returned (.bool true) ∧ J (pre ++ [x]) W' ∧ Keep n₀ Bs W1 W') ∨ (e = .returned (.bool false) ∧ Jx (pre ++ [x]) W'))
    (hn0 : n₀ ≤ W.heap.size) (hW0 : Below n₀ w0 W) (hBs : Bs < W.heap.size)
    (hc : W.cell? ⟨Bs, 0, none⟩ = some (.slice A N c)) (h0 : J [] W) :
    CallsIn Fence.wide n Tryd.prog 78 #[.func (.yield l) #[] #[], .pointer (some ⟨Bs, 0, none⟩)] W fun e W' => (∃ v, e = .returned v) ∧
      ((∃ ys, ys = L.map rchk ∧ J ys W') ∨ (∃ pre, pre <+: L.map rchk ∧ Jx pre W')) := by
  have HN := Lib.hid hN; have HX := Lib.hid hx; have HZ := Lib.hid hz; have HOK := Lib.hid hO; have HW0 := Lib.hid hw0
  clear hN hx hz hO hw0
  have CK := Lib.hid rcheck_any
  refine callsIn_of_wp Tryd.func78 rfl trivial ?_ rfl
  simp only [Tryd.ntmps78, List.size_toArray, List.length_cons, List.length_nil, Nat.reduceAdd, Nat.reduceSub, Array.replicate_succ, Array.replicate_zero, List.push_toArray, List.append_toArray, List.nil_append, List.cons_append]
  gi_wp2
  gi_loopw [7] (fun s6 wr => ∃ (k : Nat) (pre : List Int), s6 = .int .i64 k ∧ k ≤ N ∧ pre.length = k ∧ Hid (pre = (L.take k).map rchk) ∧ J pre wr ∧ Keep n₀ Bs W wr)
    (fun s6 _ => N - (intOf s6).toNat)
  case atStart => exact ⟨0, [], rfl, Nat.zero_le _, rfl, Lib.hid rfl, h0, Keep.refl _ _ _⟩
  case round =>
    clear h0
    obtain ⟨k, pre, rfl, hkN, hpk, HP, hJs, hKB⟩ := hrel
    by_cases hk : k < N
    · have k1 : (k : Int) < (N : Int) := by omega
      obtain ⟨⟨p1, p2, p3⟩, hp⟩ : ∃ p, L[k]? = some p := ⟨_, List.getElem?_eq_getElem (by rw [HN.out]; exact hk)⟩
      have BW : Below n₀ w0 wr := hW0.trans hKB.1
      obtain ⟨b, o, rfl, _, hcc⟩ := (HX.out.below (HW0.out.symm ▸ BW)).cells HN.out (by omega)
      obtain ⟨g0, g1, g2⟩ := blk_cells hcc hp
      simp only at g0 g1 g2
      have hz1 := HZ.out _ (List.mem_of_getElem? hp)
      simp only at hz1
      have hst : Hid (pre ++ [rchk (p1, p2, p3)] = (L.take (k + 1)).map rchk) := Lib.hid (by rw [HP.out, List.take_add_one, hp]; simp)
      obtain ⟨er, her⟩ : ∃ z, rchk (p1, p2, p3) = z := ⟨_, rfl⟩
      rw [her] at hst
      have hal : Below wr.heap.size wr (wr.alloc (.cells #[.string p1, .string p2, .int .i64 p3] 55)) := blw_one _ _
      have bwa : Below n₀ w0 (wr.alloc (.cells #[.string p1, .string p2, .int .i64 p3] 55)) := BW.trans (hal.mono (Nat.le_trans hn0 hKB.1.size))
      have c5 := CK.out p1 p2 p3 (wr.alloc (.cells #[.string p1, .string p2, .int .i64 p3] 55)) (HOK.out.below (HW0.out.symm ▸ bwa)) hz1.1 hz1.2
      rw [her] at c5
      have CC := Lib.hid c5
      have HAL := Lib.hid hal
      have ltB : Bs < wr.heap.size := Nat.lt_of_lt_of_le hBs hKB.1.size
      have len0 : n₀ ≤ wr.heap.size := Nat.le_trans hn0 hKB.1.size
      clear hcc hp c5 her hal bwa
      gi_wp2_with (refine ⟨trivial, ?_⟩; gi_at_call 79; refine (callsIn_wide.2 CC.out).mono ?_; rintro e w1 ⟨rfl, hb1⟩; have b1 : Below wr.heap.size wr w1 := HAL.out.trans (hb1.mono HAL.out.size); have hJ1 : J pre w1 := hJ _ _ _ none hJs (grown_none b1) (fun _ h => by cases h); have hB1 : Keep n₀ Bs W w1 := hKB.trans (Keep.of_below b1 len0 ltB); obtain ⟨fn, tmps, assign, body, hy, hR⟩ := hY pre er w1 hJ1 (by omega))
      refine hR.mono ?_
      rintro e W3 (⟨rfl, hJ3, hk3⟩ | ⟨rfl, hJx3⟩)
      · gi_wp2
        go_roundw
        case rel => exact ⟨k + 1, pre ++ [er], by go_num, by omega, by simp; omega, hst, hJ3, hB1.trans hk3⟩
        case measure => simp [intOf]; omega
      · gi_wp2
        refine bodyPost_ret (results_none rfl _ _ _) rfl ?_
        exact ⟨⟨_, rfl⟩, .inr ⟨pre ++ [er], by rw [hst.out]; exact (List.take_prefix _ _).map _, hJx3⟩⟩
    · obtain rfl : k = N := by omega
      have HE : Hid (pre = L.map rchk) := Lib.hid (by rw [HP.out, List.take_of_length_le (by rw [HN.out]; exact Nat.le_refl _)])
      gi_wp2
      go_end0
      exact ⟨⟨_, rfl⟩, .inl ⟨pre, HE.out, hJs⟩⟩

theorem checksFn_any (A : Option Addr) (n c : Nat) (w : World) :
    Calls Tryd.prog 63 #[.slice A n c] w fun e w' => e = .returned (.func (.func 78) #[] #[.pointer (some ⟨w.heap.size, 0, none⟩)]) ∧ w' = w.alloc (.cells #[.slice A n c] 22) := by
  go_enter Tryd.func63, Tryd.ntmps63
  go_wp2
  go_ret
  exact ⟨rfl, rfl⟩
theorem checks_stops (n : Nat) (hn : 1 ≤ n) (Bs n₀ : Nat) (A : Option Addr) (N c : Nat) (L : List Blk) (hN : L.length = N) (hL : N ≤ 2000000) (hz : szL L) (w0 : World) (hw0 : w0.heap.size = n₀) (hO : Okw w0) (hx : BRuns w0 (.slice A N c) L)
    (w : World) (hn0 : n₀ ≤ w.heap.size) (hW0 : Below n₀ w0 w) (hBs : Bs < w.heap.size) (hc : w.cell? ⟨Bs, 0, none⟩ = some (.slice A N c)) :
    SeqStopsK Fence.wide n Tryd.prog 78 #[.pointer (some ⟨Bs, 0, none⟩)] (fun x : Int => #[Value.int .i64 x]) (Keep n₀ Bs) (fun ys => ys = L.map rchk) (fun pre => pre <+: L.map rchk) N w :=
  fun l J Jx W hW hJ _ hY h0 => checks_in n hn l Bs n₀ A N c L hN hL hz w0 hw0 hO hx J Jx W hJ hY (Nat.le_trans hn0 hW.size) (hW0.trans (hW.mono hn0)) (Nat.lt_of_lt_of_le hBs hW.size) ((hW.cell (p := ⟨Bs, 0, none⟩) hBs).trans hc) h0

set_option maxRecDepth 100000 in
set_option maxHeartbeats 8000000 in
theorem reach_any (u : Value) (L : List Blk) (w : World) (hO : Okw w) (hu : BRuns w u L) (hl : L.length ≤ 2000000) (hz : szL L) :
    Calls Tryd.prog 42 #[u] w fun e w' => e = .returned (.int .i64 (rall L)) ∧ Below w.heap.size w w' := by
  obtain ⟨A, cc, e⟩ := hu.slice
  subst e
  obtain ⟨N, hN⟩ : ∃ N, L.length = N := ⟨_, rfl⟩
  rw [hN] at hu hl ⊢
  obtain ⟨res, hres⟩ : ∃ z, rall L = z := ⟨_, rfl⟩
  have h1 : (∀ x ∈ L.map rchk, x = 0) → res = 0 := fun h => by rw [← hres]; exact rchk_map_zero h
  have h2 : ∀ z e, (∀ x ∈ z, x = 0) → e ≠ 0 → z ++ [e] <+: L.map rchk → res = e := fun z e a b c => by rw [← hres]; exact rall_first a b c
  rw [hres]
  have H1 := Lib.hid h1; have H2 := Lib.hid h2
  clear h1 h2 hres
  refine (callsIn_wide (n := 6)).1 ?_
  refine callsIn_of_wp_marks Tryd.func42 rfl trivial ?_ rfl
  simp only [Tryd.ntmps42, List.size_toArray, List.length_cons, List.length_nil, Nat.reduceAdd, Nat.reduceSub, Array.replicate_succ, Array.replicate_zero, List.push_toArray, List.append_toArray, List.nil_append, List.cons_append]
  gi_wp2
  refine wpIn_wide.2 (wp_scope_straight ((wpIn_wide (n := 6)).1 ?_))
  gi_wp2_with (first | (refine ⟨trivial, ?_⟩; gi_at_call 63; refine (callsIn_wide.2 (checksFn_any _ _ _ _)).mono ?_; rintro e w' ⟨rfl, rfl⟩) | (refine wpIn_label ?_))
  have bE := Boxed.new w 26 (.int .i64 0)
  have bS := Boxed.new (w.alloc (.cells #[.int .i64 0] 26)) 22 (.slice A N cc)
  rw [World.size_alloc] at bS
  have hB0 : Below w.heap.size w ((w.alloc (.cells #[.int .i64 0] 26)).alloc (.cells #[.slice A N cc] 22)) := ((Below.refl _ w).alloc (Nat.le_refl _) _).alloc (by simp) _
  refine wpIn_rangeFunc_ownG rfl (by decide) (gf := 78) (lb := #[.pointer (some ⟨w.heap.size + 1, 0, none⟩)]) rfl trivial (enters_of Tryd.func78 (by kernel_rfl) rfl)
    (checks_stops 5 (by decide) (w.heap.size + 1) w.heap.size A N cc L hN hl hz w rfl hO hu _ (by simp; omega) hB0 (by simp) bS.cell) Keep.trans (keepK_b (by simp; omega) (by simp)) (Below.refl _ _) (fun _ => rfl)
    (fun (pre : List Int) W => (((∀ x ∈ pre, x = 0) ∧ Boxed W w.heap.size 26 (.int .i64 0)) ∧ Boxed W (w.heap.size + 1) 22 (.slice A N cc)) ∧ Below w.heap.size w W)
    (fun c (pre : List Int) W => (∃ e : Int, (c = .exit 0 ∧ e ≠ 0 ∧ ∃ z, (∀ x ∈ z, x = 0) ∧ pre = z ++ [e]) ∧ Boxed W w.heap.size 26 (.int .i64 e)) ∧ Below w.heap.size w W)
    (OwnFrom.and (OwnFrom.and (OwnFrom.and (ownFrom_pure _ (fun pre : List Int => ∀ x ∈ pre, x = 0)) (Own.from (boxed_own _ _ _) _)) (Own.from (boxed_own _ _ _) _)) (ownFrom_below (Nat.le_refl _) (by simp; omega)))
    (fun c => OwnFrom.and (fun pre W W' row hx hg hr => by
      obtain ⟨e, h1, h2⟩ := hx
      exact ⟨e, h1, (Own.from (boxed_own w.heap.size 26 (fun _ : List Int => Value.int .i64 e)) _) pre W W' row h2 hg hr⟩) (ownFrom_below (Nat.le_refl _) (by simp; omega)))
    ⟨⟨⟨by simp, bE.alloc _⟩, bS⟩, hB0⟩
    (fun x => { tmps := #[.slice A N cc, undef, .int .i64 0, .pointer (some ⟨w.heap.size, 0, none⟩), .int .i64 x, .slice A N cc, .func (.func 78) #[] #[.pointer (some ⟨w.heap.size + 1, 0, none⟩)], .int .i64 x, undef, undef, undef, undef, undef], defers := [] }) ?assign ?body ?done ?stop
  case assign =>
    intro l x W K hK
    gi_wp2
    exact hK
  case body =>
    rintro l pre x W ⟨⟨⟨hp, hE⟩, hS⟩, hB⟩ hlt
    have HP := Lib.hid hp; clear hp
    have hce := hE.cell
    have hfe := hE.frozen
    by_cases hx : x = 0
    · subst hx
      gi_wp2
      exact ⟨KeepsFrom.refl _ _, Keep.refl _ _ _, ⟨⟨fun y hy => by rcases List.mem_append.1 hy with h | h; exact HP.out y h; simpa using h, hE⟩, hS⟩, hB⟩
    · have hx1 : (x == 0) = false := by simpa using hx
      gi_wp2
      exact ⟨(KeepsOthers.setCell _ _ _).from _, ⟨x, ⟨rfl, hx, pre, HP.out, rfl⟩, hE.set _⟩, hB.setCell (p := ⟨w.heap.size, 0, none⟩) (Nat.le_refl _) _⟩
  case done =>
    rintro D ys W hD rfl ⟨⟨⟨hp, hE⟩, hS⟩, hB⟩ hK
    have hce := hE.cell
    have hr : Hid (res = 0) := Lib.hid (H1.out hp)
    clear hp
    gi_wp2
    refine ⟨by simp, .inl ⟨_, _, rfl, run_takeDeferred hK, ?_⟩⟩
    refine ⟨_, results_tmp rfl _ _ _, ?_⟩
    exact ⟨by rw [hr.out]; rfl, hB.trans (belowK_b (w := w) (Nat.le_refl _) W D _ _ (by simp at hD; omega) hK rfl rfl)⟩
  case stop =>
    rintro D c pre W hD hp ⟨⟨e, ⟨rfl, he, z, hz0, rfl⟩, hE⟩, hB⟩ hK
    have hce := hE.cell
    have hr : Hid (res = e) := Lib.hid (H2.out z e hz0 he hp)
    clear hp he hz0
    gi_wp2
    refine ⟨by simp, .inl ⟨_, _, rfl, run_takeDeferred hK, ?_⟩⟩
    refine ⟨_, results_tmp rfl _ _ _, ?_⟩
    exact ⟨by rw [hr.out]; rfl, hB.trans (belowK_b (w := w) (Nat.le_refl _) W D _ _ (by simp at hD; omega) hK rfl rfl)⟩
end Go.Proofs.YtbbkkoeipkigdaaDoor

/- slices.BinarySearchFunc over rules: the place of a rule, and whether it stands there. -/
namespace Go.Proofs.YtbbkkoeipkigdaaDoor
open Go.RowKit Go.Shelf Go.Lib
open Go.Sort (grow)
set_option linter.unusedSimpArgs false
set_option linter.unusedVariables false

theorem cmpB_neg (x y : Blk) : (cmpB x y < 0 ↔ lessB x y = true) := by
  unfold cmpB
  cases h : lessB x y
  · cases h2 : lessB y x <;> simp
  · simp
theorem cmpB_zero (x y : Blk) : (cmpB x y = 0 ↔ sameS x y) := by
  unfold cmpB
  rcases less_one x y with ⟨h1, h2, h3⟩ | ⟨h1, h2, h3⟩ | ⟨h1, h2, h3⟩ <;> simp [h1, h2, h3]
/-- Whether the rule at a place has these sides. -/
def standsAt (l : List Blk) (m : Nat) (k : Blk) : Bool := match l[m]? with
  | some y => decide (sameS y k)
  | none => false

/-- What a call keeps: a rule of the row, the one that is looked for in its box, all that is old. -/
structure KOne (w : World) (b p c : Nat) (y x : Blk) (w' : World) : Prop where
  a0 : w'.cell? ⟨b, p, none⟩ = some (.string y.1)
  a1 : w'.cell? ⟨b, p + 1, none⟩ = some (.string y.2.1)
  a2 : w'.cell? ⟨b, p + 2, none⟩ = some (.int .i64 y.2.2)
  b0 : w'.cell? ⟨c, 0, none⟩ = some (.string x.1)
  b1 : w'.cell? ⟨c, 1, none⟩ = some (.string x.2.1)
  b2 : w'.cell? ⟨c, 2, none⟩ = some (.int .i64 x.2.2)
  lt : b < w'.heap.size
  lt' : c < w'.heap.size
  bel : Below w.heap.size w w'
theorem KOne.step {w : World} {b p c : Nat} {y x : Blk} {w' w'' : World} (h : KOne w b p c y x w') (hb : Below w'.heap.size w' w'') : KOne w b p c y x w'' :=
  ⟨(hb.cell (p := ⟨b, _, none⟩) h.lt).trans h.a0, (hb.cell (p := ⟨b, _, none⟩) h.lt).trans h.a1, (hb.cell (p := ⟨b, _, none⟩) h.lt).trans h.a2, (hb.cell (p := ⟨c, _, none⟩) h.lt').trans h.b0, (hb.cell (p := ⟨c, _, none⟩) h.lt').trans h.b1, (hb.cell (p := ⟨c, _, none⟩) h.lt').trans h.b2, Nat.lt_of_lt_of_le h.lt hb.size, Nat.lt_of_lt_of_le h.lt' hb.size, h.bel.trans (hb.mono h.bel.size)⟩

end Go.Proofs.YtbbkkoeipkigdaaDoor

/- count.Find: how often a table has a block of these sides. -/
namespace Go.Proofs.YtbbkkoeipkigdaaDoor
open Go.RowKit Go.Shelf Go.Lib
open Go.Sort (grow alloc_eq_grow grow_grow)
set_option linter.unusedSimpArgs false
set_option linter.unusedVariables false

/-- How many stand ahead of a block: its place. -/
theorem srt_place {l : List Blk} (hs : Srt l) (k : Blk) : ∃ at_ : Nat, at_ ≤ l.length ∧ (∀ j y, j < at_ → l[j]? = some y → lessB y k = true) ∧ (∀ j y, at_ ≤ j → l[j]? = some y → lessB y k = false) := by
  induction l with
  | nil => exact ⟨0, by simp, fun j y h => by omega, fun j y _ h => by simp at h⟩
  | cons a l ih =>
    cases h : lessB a k with
    | true =>
      obtain ⟨m, h1, h2, h3⟩ := ih hs.2
      refine ⟨m + 1, by simpa using h1, fun j y hj hy => ?_, fun j y hj hy => ?_⟩
      · cases j with
        | zero =>
          obtain rfl : a = y := by simpa using hy
          exact h
        | succ j => exact h2 j y (by omega) (by simpa using hy)
      · cases j with
        | zero => omega
        | succ j => exact h3 j y (by omega) (by simpa using hy)
    | false =>
      refine ⟨0, by simp, fun j y hj => by omega, fun j y _ hy => ?_⟩
      cases j with
      | zero =>
        obtain rfl : a = y := by simpa using hy
        exact h
      | succ j =>
        have hm : y ∈ l := List.mem_of_getElem? (by simpa using hy)
        cases h4 : lessB y k with
        | false => rfl
        | true =>
          have := less_on a y k (hs.1 y hm) h4
          rw [h] at this; cases this
theorem count_place {l : List Blk} {m : Nat} {p : Nat → Bool} (hm : m ≤ l.length) (h1 : ∀ j, j < m → p j = false) (h2 : ∀ j, m ≤ j → j < l.length → p j = true) : (List.range l.length).countP (fun i => !p i) = m := by
  obtain ⟨d, hd⟩ : ∃ d, l.length = m + d := ⟨l.length - m, by omega⟩
  rw [hd, List.range_add, List.countP_append]
  have e1 : (List.range m).countP (fun i => !p i) = m := by
    rw [List.countP_eq_length.2 (fun i hi => by rw [h1 i (List.mem_range.1 hi)]; rfl)]; simp
  have e2 : ((List.range d).map (m + ·)).countP (fun i => !p i) = 0 := by
    rw [List.countP_eq_zero]
    intro i hi
    obtain ⟨j, hj, rfl⟩ := List.mem_map.1 hi
    rw [h2 (m + j) (by omega) (by have := List.mem_range.1 hj; omega)]
    simp
  rw [e1, e2, Nat.add_zero]
theorem find_at {l : List Blk} (hs : Srt l) (k : Blk) {m : Nat} (h1 : ∀ j y, j < m → l[j]? = some y → lessB y k = true) (h2 : ∀ j y, m ≤ j → l[j]? = some y → lessB y k = false) : (l[m]? = none → cnt l k = 0) ∧ (∀ y, l[m]? = some y → (sameS y k → cnt l k = y.2.2) ∧ (¬ sameS y k → cnt l k = 0)) := by
  have hne : ∀ j y, l[j]? = some y → j ≠ m → ¬ sameS y k := fun j y hy hj e => by
    rcases Nat.lt_or_ge j m with h | h
    · exact (less_not (h1 j y h hy)).2 e
    · have hmj : m < j := by omega
      have hml : m < l.length := by have := (List.getElem?_eq_some_iff.1 hy).1; omega
      obtain ⟨z, hz⟩ : ∃ z, l[m]? = some z := ⟨_, List.getElem?_eq_getElem hml⟩
      have hpw : ∀ (l : List Blk), Srt l → ∀ (i j : Nat) (x y : Blk), i < j → l[i]? = some x → l[j]? = some y → lessB x y = true := by
        intro l
        induction l with
        | nil => intro _ i j x y _ h; simp at h
        | cons a l ih =>
          intro hs i j x y hij hx hy
          cases i with
          | zero =>
            obtain rfl : a = x := by simpa using hx
            cases j with
            | zero => omega
            | succ j => exact hs.1 y (List.mem_of_getElem? (by simpa using hy))
          | succ i =>
            cases j with
            | zero => omega
            | succ j => exact ih hs.2 i j x y (by omega) (by simpa using hx) (by simpa using hy)
      have h3 := hpw l hs m j z y hmj hz hy
      have h4 := h2 m z (Nat.le_refl _) hz
      rw [less_key (c := z) (d := y) ⟨rfl, rfl⟩ (sameS_symm e), h3] at h4
      cases h4
  refine ⟨fun h => ?_, fun y hy => ⟨fun e => ?_, fun e => ?_⟩⟩
  · refine cnt_none (fun b hb => ?_)
    obtain ⟨j, hj⟩ := List.getElem?_of_mem hb
    exact hne j b hj (fun e => by rw [e, h] at hj; cases hj)
  · rw [← cnt_key e]
    exact srt_mem_cnt hs y (List.mem_of_getElem? hy)
  · refine cnt_none (fun b hb => ?_)
    obtain ⟨j, hj⟩ := List.getElem?_of_mem hb
    by_cases hjm : j = m
    · subst hjm
      rw [hy] at hj
      obtain rfl := Option.some.inj hj
      exact e
    · exact hne j b hj hjm

end Go.Proofs.YtbbkkoeipkigdaaDoor

/- errataref07.Check, Less, all, Is, Find, Same: what each answers. -/
namespace Go.Proofs.YtbbkkoeipkigdaaDoor
open Go.RowKit Go.Shelf
set_option linter.unusedSimpArgs false
set_option linter.unusedVariables false

theorem rall_append (a b : List Blk) : rall (a ++ b) = if rall a = 0 then rall b else rall a := by
  induction a with
  | nil => simp [rall]
  | cons x a ih =>
    rw [List.cons_append, rall, rall, ih]
    by_cases h : rchk x = 0
    · simp only [h, if_true]
    · simp only [h, if_false]
theorem rall_take {l : List Blk} (k : Nat) (x : Blk) (h : l[k]? = some x) (h0 : rall (l.take k) = 0) : (rchk x = 0 → rall (l.take (k + 1)) = 0) ∧ (rchk x ≠ 0 → rall l = rchk x) := by
  refine ⟨fun hx => ?_, fun hx => ?_⟩
  · rw [List.take_add_one, h, rall_append, if_pos h0]; simp [rall, hx]
  · have e : l = l.take k ++ x :: l.drop (k + 1) := by
      have hk := (List.getElem?_eq_some_iff.1 h).1
      have hx2 := (List.getElem?_eq_some_iff.1 h).2
      rw [← hx2, ← List.drop_eq_getElem_cons hk, List.take_append_drop]
    rw [e, rall_append, if_pos h0, rall, if_neg hx]
theorem cells3_box (w : World) (a b c : Value) (t : TypeId) : (w.alloc (.cells #[a, b, c] t)).cell? ⟨w.heap.size, 0, none⟩ = some a ∧ (w.alloc (.cells #[a, b, c] t)).cell? ⟨w.heap.size, 1, none⟩ = some b ∧ (w.alloc (.cells #[a, b, c] t)).cell? ⟨w.heap.size, 2, none⟩ = some c := by
  have h := heap_alloc_new w (.cells #[a, b, c] t)
  refine ⟨?_, ?_, ?_⟩ <;> (rw [cell_of_row _ _ _ _ _ _ h]; rfl)
set_option maxRecDepth 100000 in
set_option maxHeartbeats 4000000 in
theorem refCheck7_any (a b : ByteArray) (N : Int) (w : World) (ha : a.size ≤ 2000000) (hb : b.size ≤ 2000000) :
    Calls Tryd.prog 70 #[.agg #[.string a, .string b, .int .i64 N]] w fun e w' => e = .returned (.int .i64 (rchk (a, b, N))) ∧ Below w.heap.size w w' := by
  have c5 := fun w => refCheck5_any a b 1 w (by omega) (by omega)
  have hR : rchk (a, b, N) = if chkS (a, b, 1) = 0 then (if N < 1 ∨ 255 < N then 2 else 0) else chkS (a, b, 1) := rfl
  obtain ⟨res, hres⟩ : ∃ r, rchk (a, b, N) = r := ⟨_, rfl⟩
  obtain ⟨er, her⟩ : ∃ r, chkS (a, b, 1) = r := ⟨_, rfl⟩
  rw [hres] at hR ⊢
  rw [her] at hR
  simp only [her] at c5
  obtain ⟨a0, a1, a2⟩ := cells3_box w (.string a) (.string b) (.int .i64 N) 55
  have hal : Below w.heap.size w (w.alloc (.cells #[.string a, .string b, .int .i64 N] 55)) := (Below.refl _ _).alloc (Nat.le_refl _) _
  have hlt : w.heap.size < (w.alloc (.cells #[.string a, .string b, .int .i64 N] 55)).heap.size := by simp
  obtain ⟨W1, hW1⟩ : ∃ z, w.alloc (.cells #[.string a, .string b, .int .i64 N] 55) = z := ⟨_, rfl⟩
  rw [hW1] at a0 a1 a2 hal hlt
  obtain ⟨bx, hbx⟩ : ∃ z, w.heap.size = z := ⟨_, rfl⟩
  rw [hbx] at a0 a1 a2 hlt
  have HW1 := Lib.hid hW1; have HBX := Lib.hid hbx; have HAL := Lib.hid hal; have C5 := Lib.hid c5; have HR := Lib.hid hR
  clear hW1 hbx hal c5 hR hres her
  go_enter Tryd.func70, Tryd.ntmps70
  go_wp2_with fail
  rw [HW1.out, HBX.out]
  refine (C5.out _).mono ?_
  rintro e w2 ⟨rfl, b2⟩
  have d2 := (b2.cell (p := ⟨bx, 2, none⟩) hlt).trans a2
  have B2 : Hid (Below w.heap.size w w2) := Lib.hid (HAL.out.trans (b2.mono HAL.out.size))
  clear b2 a0 a1 a2
  by_cases h0 : er = 0
  · subst h0
    by_cases h1 : N < 1
    · have hr : Hid (res = 2) := Lib.hid (by rw [HR.out, if_pos (by first | rfl | trivial), if_pos (.inl h1)])
      go_wp2
      go_ret
      exact ⟨by rw [hr.out]; rfl, B2.out⟩
    · by_cases h2 : 255 < N
      · have hr : Hid (res = 2) := Lib.hid (by rw [HR.out, if_pos (by first | rfl | trivial), if_pos (.inr h2)])
        go_wp2
        go_ret
        exact ⟨by rw [hr.out]; rfl, B2.out⟩
      · have hr : Hid (res = 0) := Lib.hid (by rw [HR.out, if_pos (by first | rfl | trivial), if_neg (by omega)])
        go_wp2
        go_ret
        exact ⟨by rw [hr.out]; rfl, B2.out⟩
  · have h0' : (er == 0) = false := by simpa using h0
    have hr : Hid (res = er) := Lib.hid (by rw [HR.out, if_neg h0])
    go_wp2
    go_ret
    exact ⟨by rw [hr.out]; rfl, B2.out⟩
set_option maxRecDepth 100000 in
set_option maxHeartbeats 4000000 in
theorem refLess7_any (a b c d : ByteArray) (N M : Int) (w : World) :
    Calls Tryd.prog 53 #[.agg #[.string a, .string b, .int .i64 N], .agg #[.string c, .string d, .int .i64 M]] w fun e w' => e = .returned (.bool (lessB (a, b, N) (c, d, M))) ∧ Below w.heap.size w w' := by
  obtain ⟨res, hres⟩ : ∃ r, lessB (a, b, N) (c, d, M) = r := ⟨_, rfl⟩
  rw [hres]
  unfold lessB at hres
  simp only at hres
  have HR := Lib.hid hres; clear hres
  have hal : Hid (Below w.heap.size w ((w.alloc (.cells #[.string a, .string b, .int .i64 N] 55)).alloc (.cells #[.string c, .string d, .int .i64 M] 55))) := Lib.hid (((Below.refl _ _).alloc (Nat.le_refl _) _).alloc (by simp) _)
  by_cases h1 : Op.bytesLess a.toList c.toList = true
  · have hr : res = true := by rw [← HR.out, if_pos h1]
    subst hr
    go_enter Tryd.func53, Tryd.ntmps53
    go_wp2
    go_ret
    exact ⟨rfl, hal.out⟩
  · by_cases h2 : a.toList = c.toList
    · have hr : Hid (res = Op.bytesLess b.toList d.toList) := Lib.hid (by rw [← HR.out, if_neg h1, if_pos h2])
      obtain rfl := toList_ext h2
      have h1' : Op.bytesLess a.toList a.toList = false := by simpa using h1
      clear h1 h2
      go_enter Tryd.func53, Tryd.ntmps53
      go_wp2
      go_ret
      exact ⟨ret_bool (by rw [hr.out]), hal.out⟩
    · have hr : res = false := by rw [← HR.out, if_neg h1, if_neg h2]
      subst hr
      have h1' : Op.bytesLess a.toList c.toList = false := by simpa using h1
      have h2' : (a.toList == c.toList) = false := beq_eq_false_iff_ne.2 h2
      go_enter Tryd.func53, Tryd.ntmps53
      go_wp2
      go_ret
      exact ⟨rfl, hal.out⟩

set_option maxRecDepth 100000 in
set_option maxHeartbeats 8000000 in
theorem refAll_any (u : Value) (l : List Blk) (w : World) (hu : BRuns w u l) (hl : l.length ≤ 2000000) (hz : ∀ b ∈ l, b.1.size ≤ 2000000 ∧ b.2.1.size ≤ 2000000) :
    Calls Tryd.prog 52 #[u] w fun e w' => e = .returned (.int .i64 (rall l)) ∧ Below w.heap.size w w' := by
  obtain ⟨A, c, e⟩ := hu.slice
  subst e
  have HU := Lib.hid hu; clear hu
  obtain ⟨n, hn⟩ : ∃ n, l.length = n := ⟨_, rfl⟩
  obtain ⟨res, hres⟩ : ∃ r, rall l = r := ⟨_, rfl⟩
  rw [hres]
  have HT := Lib.hid hres; clear hres
  rw [hn] at hl HU ⊢
  have HN := Lib.hid hn; clear hn
  have HZ := Lib.hid hz; clear hz
  have C5 := Lib.hid refCheck7_any
  go_enter Tryd.func52, Tryd.ntmps52
  go_wp2
  go_loopw [8] (fun s8 wr => ∃ k : Nat, k ≤ n ∧ s8 = .int .i64 k ∧ Hid (rall (l.take k) = 0) ∧ Hid (Below w.heap.size w wr)) (fun s8 _ => n - (RowKit.intOf s8).toNat)
  case atStart => exact ⟨0, Nat.zero_le _, rfl, Lib.hid rfl, Lib.hid (Below.refl _ _)⟩
  case round =>
    obtain ⟨k, hkn, rfl, HC, BW⟩ := hrel
    by_cases hk : k < n
    · have k1 : (k : Int) < (n : Int) := by omega
      obtain ⟨⟨p1, p2, p3⟩, hp⟩ : ∃ p, l[k]? = some p := ⟨_, List.getElem?_eq_getElem (by rw [HN.out]; exact hk)⟩
      obtain ⟨b, o, rfl, _, hc⟩ := (HU.out.below BW.out).cells HN.out (by omega)
      obtain ⟨g0, g1, g2⟩ := blk_cells hc hp
      simp only at g0 g1 g2
      have hz1 := HZ.out _ (List.mem_of_getElem? hp)
      have hch := rall_take k _ hp HC.out
      simp only at hz1
      obtain ⟨er, her⟩ : ∃ z, rchk (p1, p2, p3) = z := ⟨_, rfl⟩
      rw [her] at hch
      have HCH := Lib.hid hch
      have hal : Hid (Below w.heap.size w (wr.alloc (.cells #[.string p1, .string p2, .int .i64 p3] 55))) := Lib.hid (BW.out.alloc BW.out.size _)
      have c5 := C5.out p1 p2 p3 (wr.alloc (.cells #[.string p1, .string p2, .int .i64 p3] 55)) hz1.1 hz1.2
      rw [her] at c5
      have CC := Lib.hid c5
      clear hc hp hch c5 her
      go_wp2_with fail
      refine CC.out.mono ?_
      rintro e w5 ⟨rfl, b5⟩
      have B5 : Hid (Below w.heap.size w w5) := Lib.hid (hal.out.trans (b5.mono hal.out.size))
      clear b5
      by_cases h0 : er = 0
      · subst h0
        go_wp2
        exact ⟨⟨k + 1, by omega, by go_num, Lib.hid (HCH.out.1 (by first | rfl | trivial)), B5⟩, by simp [RowKit.intOf]; omega⟩
      · have h0' : (er == 0) = false := by simpa using h0
        have hr : Hid (res = er) := Lib.hid (by rw [← HT.out]; exact HCH.out.2 h0)
        go_wp2
        go_ret
        exact ⟨by rw [hr.out]; rfl, B5.out⟩
    · obtain rfl : k = n := by omega
      have hr : Hid (res = 0) := Lib.hid (by have := HC.out; rw [← HN.out, List.take_length] at this; rw [← HT.out]; exact this)
      clear HC
      go_wp2
      go_ret
      exact ⟨by rw [hr.out]; rfl, BW.out⟩
set_option maxRecDepth 100000 in
set_option maxHeartbeats 8000000 in
theorem refIs_any (u : Value) (l : List Blk) (w : World) (hu : BRuns w u l) (hl : l.length ≤ 1000000) (hz : ∀ b ∈ l, b.1.size ≤ 2000000 ∧ b.2.1.size ≤ 2000000) :
    Calls Tryd.prog 30 #[u] w fun e w' => e = .returned (.int .i64 (risS l)) ∧ Below w.heap.size w w' := by
  obtain ⟨A, c, e⟩ := hu.slice
  subst e
  have ca := refAll_any (.slice A l.length c) l w hu (by omega) hz
  have HU := Lib.hid hu; clear hu
  obtain ⟨n, hn⟩ : ∃ n, l.length = n := ⟨_, rfl⟩
  have hT : risS l = if rall l = 0 then (if ordB l then (if 4096 < n then 6 else 0) else 7) else rall l := by rw [risS, hn]
  obtain ⟨res, hres⟩ : ∃ r, risS l = r := ⟨_, rfl⟩
  rw [hres] at hT ⊢
  have HT := Lib.hid hT; clear hT hres
  rw [hn] at hl HU ca ⊢
  have HN := Lib.hid hn; clear hn hz
  have CL := Lib.hid refLess7_any
  obtain ⟨ra, hra⟩ : ∃ z, rall l = z := ⟨_, rfl⟩
  rw [hra] at ca
  have HRA := Lib.hid hra; have CA := Lib.hid ca
  clear hra ca
  go_enter Tryd.func30, Tryd.ntmps30
  go_wp2_with fail
  refine CA.out.mono ?_
  rintro e w1 ⟨rfl, b1⟩
  have BW := Lib.hid b1; clear b1
  by_cases h00 : ra = 0
  · subst h00
    have HC0 : Hid (rall l = 0) := Lib.hid HRA.out
    go_wp2
    go_loopw [12] (fun s18 wr' => ∃ j : Nat, j ≤ n ∧ s18 = .int .i64 j ∧ Hid (ordB (l.take j) = true) ∧ Hid (Below w.heap.size w wr')) (fun s18 _ => n - (RowKit.intOf s18).toNat)
    case atStart => exact ⟨0, Nat.zero_le _, rfl, Lib.hid rfl, BW⟩
    case round =>
      obtain ⟨j, hjk, rfl, HO, BW2⟩ := hrel
      by_cases hj : j < n
      · have j1 : (j : Int) < (n : Int) := by omega
        rcases Nat.eq_zero_or_pos j with h0 | h0
        · subst h0
          go_wp2
          go_quiet (fail)
          go_wp2
          exact ⟨⟨1, by omega, by go_num, Lib.hid (ordB_one l), Lib.hid (below_draws BW2.out _)⟩, by simp [RowKit.intOf]; omega⟩
        · obtain ⟨i, hi⟩ : ∃ i : Nat, (j : Int) - 1 = (i : Int) := ⟨j - 1, by omega⟩
          have ei : j = i + 1 := by omega
          have EI := Lib.hid ei
          obtain ⟨⟨y1, y2, y3⟩, hy⟩ : ∃ p, l[i]? = some p := ⟨_, List.getElem?_eq_getElem (by rw [HN.out]; omega)⟩
          obtain ⟨⟨x1, x2, x3⟩, hx⟩ : ∃ p, l[j]? = some p := ⟨_, List.getElem?_eq_getElem (by rw [HN.out]; omega)⟩
          have RW := Lib.hid (HU.out.below BW2.out)
          obtain ⟨b, o, rfl, hblt, hc⟩ := RW.out.cells HN.out (by omega)
          obtain ⟨g0, g1, g2⟩ := blk_cells hc hy
          obtain ⟨g3, g4, g5⟩ := blk_cells hc hx
          simp only at g0 g1 g2 g3 g4 g5
          have hor := ordB_take i (y1, y2, y3) (x1, x2, x3) hy (by rw [← ei]; exact hx) (by rw [← ei]; exact HO.out)
          have c5 := fun w => CL.out y1 y2 x1 x2 y3 x3 w
          obtain ⟨le, hle⟩ : ∃ z, lessB (y1, y2, y3) (x1, x2, x3) = z := ⟨_, rfl⟩
          simp only [hle] at c5 hor
          have HOR := Lib.hid hor; have C := Lib.hid c5
          clear hc hy hx hor c5 hle ei HO
          have i0 : (0 : Int) < (j : Int) := by omega
          have i1 : (i : Int) < (n : Int) := by omega
          have hwr : IntKind.i64.wrap ((j : Int) - 1) = (i : Int) := by rw [IntKind.wrap_i64]; omega
          have hwi : IntKind.i64.wrap (i : Int) = (i : Int) := by rw [IntKind.wrap_i64]; omega
          have i2 : (0 : Int) ≤ (i : Int) := by omega
          have KD : Hid (KRow w b (o + i * 3) (o + j * 3) (y1, y2, y3) (x1, x2, x3) wr.drew) := Lib.hid ⟨g0, g1, g2, g3, g4, g5, hblt, BW2.out.drew⟩
          go_wp2
          go_region_held3 (fun w' => w'.cell? ⟨b, o + i * 3, none⟩ = some (.string y1) ∧ w'.cell? ⟨b, o + i * 3 + 1, none⟩ = some (.string y2) ∧ w'.cell? ⟨b, o + i * 3 + 2, none⟩ = some (.int .i64 y3) ∧ w'.cell? ⟨b, o + j * 3, none⟩ = some (.string x1) ∧ w'.cell? ⟨b, o + j * 3 + 1, none⟩ = some (.string x2) ∧ w'.cell? ⟨b, o + j * 3 + 2, none⟩ = some (.int .i64 x3) ∧ Hid (KRow w b (o + i * 3) (o + j * 3) (y1, y2, y3) (x1, x2, x3) w'))
            (first | exact ⟨g0, g1, g2, g3, g4, g5, KD⟩ | exact ⟨HKn.out.a0, HKn.out.a1, HKn.out.a2, HKn.out.b0, HKn.out.b1, HKn.out.b2, HKn⟩ | go_keep)
            (first
              | (go_at_call 53; refine (C.out _).mono ?_; rintro e w4 ⟨rfl, hb4⟩; have HKn := Lib.hid ((by assumption : Hid (KRow w b (o + i * 3) (o + j * 3) (y1, y2, y3) (x1, x2, x3) _)).out.step hb4); clear hb4))
          rename_i hHeld
          clear hHeld
          have B4 : Hid (Below w.heap.size w w4) := Lib.hid HKn.out.bel
          cases le
          · have hr : Hid (res = 7) := Lib.hid (by rw [HT.out, if_pos HC0.out, if_neg (by rw [HOR.out.2 rfl]; simp)])
            go_wp2
            go_ret
            exact ⟨by rw [hr.out]; rfl, B4.out⟩
          · go_wp2
            exact ⟨⟨j + 1, by omega, by go_num, Lib.hid (by have := HOR.out.1 rfl; rwa [← EI.out] at this), B4⟩, by simp [RowKit.intOf]; omega⟩
      · obtain rfl : j = n := by omega
        have HO0 : Hid (ordB l = true) := Lib.hid (by have := HO.out; rwa [← HN.out, List.take_length] at this)
        clear HO BW
        by_cases hbig : 4096 < j
        · have hb1 : (4096 : Int) < (j : Int) := by omega
          have hr : Hid (res = 6) := Lib.hid (by rw [HT.out, if_pos HC0.out, if_pos HO0.out, if_pos hbig])
          go_wp2
          go_ret
          exact ⟨by rw [hr.out]; rfl, BW2.out⟩
        · have hb1 : ¬ (4096 : Int) < (j : Int) := by omega
          have hr : Hid (res = 0) := Lib.hid (by rw [HT.out, if_pos HC0.out, if_pos HO0.out, if_neg hbig])
          go_wp2
          go_ret
          exact ⟨by rw [hr.out]; rfl, BW2.out⟩
  · have h00' : (ra == 0) = false := by simpa using h00
    have hr : Hid (res = ra) := Lib.hid (by rw [HT.out, HRA.out, if_neg h00])
    go_wp2
    go_ret
    exact ⟨by rw [hr.out]; rfl, BW.out⟩
end Go.Proofs.YtbbkkoeipkigdaaDoor

