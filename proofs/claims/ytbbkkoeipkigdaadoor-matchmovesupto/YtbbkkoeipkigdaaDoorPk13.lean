/- Texts that several proofs of this seat share, one behind the other: NSame CGatP CGat ESum NLaw NPlaces. -/
import Derived.Test.YtbbkkoeipkigdaaDoorPk12
import Derived.Test.YtbbkkoeipkigdaaDoorPk6
import Derived.Test.YtbbkkoeipkigdaaDoorPk2
import Derived.Test.YtbbkkoeipkigdaaDoorPk8
import Derived.Test.YtbbkkoeipkigdaaDoorPk5
import Derived.Test.YtbbkkoeipkigdaaDoorPk7
import Derived.StillTailTactics
import Derived.Deep.RegionLaw
import Derived.Deep.RegionHeld3
/- errataref08.Same, Ints, erratalaw08.hits: rows of hits, of numbers, compared; copied. -/
namespace Go.Proofs.YtbbkkoeipkigdaaDoor
open Go.RowKit Go.Shelf
set_option linter.unusedSimpArgs false
set_option linter.unusedVariables false

theorem take_eq_step {α : Type} {x y : List α} {k : Nat} {p q : α} (h : x.take k = y.take k) (hp : x[k]? = some p) (hq : y[k]? = some q) (e : p = q) : x.take (k + 1) = y.take (k + 1) := by
  rw [List.take_add_one, List.take_add_one, h, hp, hq, e]
set_option maxRecDepth 100000 in
set_option maxHeartbeats 4000000 in
theorem refSame8_any (u v : Value) (x y : List (Nat × Nat)) (w : World) (hx : HRuns w u x) (hy : HRuns w v y) :
    Calls Tryd.prog 19 #[u, v] w fun e w' => e = .returned (.bool (decide (x = y))) ∧ Drawn w w' := by
  obtain ⟨A, c, rfl, hxc, ⟨hxm, _⟩, hxx⟩ := hx
  obtain ⟨B, d, rfl, hyc, ⟨hym, _⟩, hyy⟩ := hy
  unfold maxLen at hxm hym
  obtain ⟨n, hn⟩ : ∃ n, x.length = n := ⟨_, rfl⟩
  obtain ⟨m, hm⟩ : ∃ m, y.length = m := ⟨_, rfl⟩
  obtain ⟨res, hr⟩ : ∃ r, decide (x = y) = r := ⟨_, rfl⟩
  rw [hr]
  rw [hn] at hxc hxx ⊢
  rw [hm] at hyc hyy ⊢
  have Hn := Lib.hid hn; have Hm := Lib.hid hm; have HR := Lib.hid hr
  have HX := Lib.hid hxx; have HY := Lib.hid hyy
  clear hn hm hr hxx hyy
  by_cases hnm : n = m
  · subst hnm
    go_enter Tryd.func19, Tryd.ntmps19
    go_wp2
    go_loopg [13] n (fun g s13 wr => ∃ k q : Nat, k ≤ n ∧ n - k ≤ g ∧ s13 = .int .i64 k ∧ wr = w.drewN q ∧ Hid (x.take k = y.take k))
    case atStart => exact ⟨0, 0, Nat.zero_le _, by omega, rfl, rfl, Lib.hid (by simp)⟩
    case round =>
      obtain ⟨k, q, hkn, hg, rfl, rfl, HC⟩ := hrel
      by_cases h1 : k < n
      · obtain ⟨b, o, rfl, hb, hc1⟩ := HX.out (by omega)
        obtain ⟨b', o', rfl, hb', hc2⟩ := HY.out (by omega)
        obtain ⟨⟨p1, p2⟩, hp⟩ : ∃ p, x[k]? = some p := ⟨_, List.getElem?_eq_getElem (by rw [Hn.out]; exact h1)⟩
        obtain ⟨⟨q1, q2⟩, hq⟩ : ∃ p, y[k]? = some p := ⟨_, List.getElem?_eq_getElem (by rw [Hm.out]; exact h1)⟩
        have e1 := hc1 k _ hp 0 _ rfl
        have e2 := hc1 k _ hp 1 _ rfl
        have f1 := hc2 k _ hq 0 _ rfl
        have f2 := hc2 k _ hq 1 _ rfl
        rw [Nat.add_zero] at e1 f1
        simp only at e1 e2 f1 f2
        clear hc1 hc2
        have NE : Hid ((p1, p2) ≠ (q1, q2) → x ≠ y) := Lib.hid (fun hne e => hne (by rw [e, hq] at hp; exact (Option.some.inj hp).symm))
        have ST : Hid ((p1, p2) = (q1, q2) → x.take (k + 1) = y.take (k + 1)) := Lib.hid (fun he => take_eq_step HC.out hp hq he)
        clear hp hq
        have i1 : (k : Int) < (n : Int) := by omega
        have hcs : (p1 = q1 ∧ p2 = q2) ∨ ((p1 : Int) == (q1 : Int)) = false ∨ (p1 = q1 ∧ ((p2 : Int) == (q2 : Int)) = false) := by
          by_cases h1 : p1 = q1
          · by_cases h2 : p2 = q2
            · exact .inl ⟨h1, h2⟩
            · exact .inr (.inr ⟨h1, by simp; omega⟩)
          · exact .inr (.inl (by simp; omega))
        rcases hcs with ⟨rfl, rfl⟩ | h1 | ⟨rfl, h2⟩
        · go_wp2
          go_quiet (fail)
          go_wp2
          go_roundg (n - (k + 1))
          case measure => omega
          case rel => exact ⟨k + 1, _, by omega, by omega, by go_num, by first | rfl | rw [World.drewN_drewN], Lib.hid (ST.out (by first | rfl | trivial))⟩
        all_goals
          have hno : x ≠ y := NE.out (by
            intro e
            simp only [Prod.mk.injEq] at e
            simp_all)
          have hf : Hid (res = false) := Lib.hid (by rw [← HR.out]; simp [hno])
          clear hno NE ST
          go_wp2
          go_quiet (fail)
          go_wp2
          go_ret
          exact ⟨by rw [hf.out]; rfl, by first | exact Drawn.of _ _ | (rw [World.drewN_drewN]; exact Drawn.of _ _)⟩
      · obtain rfl : k = n := by omega
        have hxy : Hid (res = true) := Lib.hid (by
          rw [← HR.out, decide_eq_true_iff]
          have := HC.out
          rwa [List.take_of_length_le (by rw [Hn.out]; exact Nat.le_refl _), List.take_of_length_le (by rw [Hm.out]; exact Nat.le_refl _)] at this)
        go_wp2
        go_ret
        exact ⟨by rw [hxy.out]; rfl, Drawn.of _ _⟩
  · have hne : ((n : Int) != (m : Int)) = true := by simp; omega
    have hf : Hid (res = false) := Lib.hid (by
      rw [← HR.out, decide_eq_false_iff_not]
      intro e
      exact hnm (by rw [← Hn.out, ← Hm.out, e]))
    go_enter Tryd.func19, Tryd.ntmps19
    go_wp2
    go_ret
    exact ⟨by rw [hf.out]; rfl, Drawn.of w 0⟩
set_option maxRecDepth 100000 in
set_option maxHeartbeats 4000000 in
theorem refInts_any (u v : Value) (x y : List Nat) (w : World) (hx : NRuns w u x) (hy : NRuns w v y) :
    Calls Tryd.prog 21 #[u, v] w fun e w' => e = .returned (.bool (decide (x = y))) ∧ Drawn w w' := by
  obtain ⟨A, c, rfl, hxc, ⟨hxm, _⟩, hxx⟩ := hx
  obtain ⟨B, d, rfl, hyc, ⟨hym, _⟩, hyy⟩ := hy
  unfold maxLen at hxm hym
  obtain ⟨n, hn⟩ : ∃ n, x.length = n := ⟨_, rfl⟩
  obtain ⟨m, hm⟩ : ∃ m, y.length = m := ⟨_, rfl⟩
  obtain ⟨res, hr⟩ : ∃ r, decide (x = y) = r := ⟨_, rfl⟩
  rw [hr]
  rw [hn] at hxc hxx ⊢
  rw [hm] at hyc hyy ⊢
  have Hn := Lib.hid hn; have Hm := Lib.hid hm; have HR := Lib.hid hr
  have HX := Lib.hid hxx; have HY := Lib.hid hyy
  clear hn hm hr hxx hyy
  by_cases hnm : n = m
  · subst hnm
    go_enter Tryd.func21, Tryd.ntmps21
    go_wp2
    go_loopg [13] n (fun g s13 wr => ∃ k q : Nat, k ≤ n ∧ n - k ≤ g ∧ s13 = .int .i64 k ∧ wr = w.drewN q ∧ Hid (x.take k = y.take k))
    case atStart => exact ⟨0, 0, Nat.zero_le _, by omega, rfl, rfl, Lib.hid (by simp)⟩
    case round =>
      obtain ⟨k, q, hkn, hg, rfl, rfl, HC⟩ := hrel
      by_cases h1 : k < n
      · obtain ⟨b, o, rfl, hb, hc1⟩ := HX.out (by omega)
        obtain ⟨b', o', rfl, hb', hc2⟩ := HY.out (by omega)
        obtain ⟨p, hp⟩ : ∃ p, x[k]? = some p := ⟨_, List.getElem?_eq_getElem (by rw [Hn.out]; exact h1)⟩
        obtain ⟨r, hq⟩ : ∃ p, y[k]? = some p := ⟨_, List.getElem?_eq_getElem (by rw [Hm.out]; exact h1)⟩
        have e1 := hc1 k _ hp 0 _ rfl
        have f1 := hc2 k _ hq 0 _ rfl
        rw [Nat.mul_one, Nat.add_zero] at e1 f1
        clear hc1 hc2
        have NE : Hid (p ≠ r → x ≠ y) := Lib.hid (fun hne e => hne (by rw [e, hq] at hp; exact (Option.some.inj hp).symm))
        have ST : Hid (p = r → x.take (k + 1) = y.take (k + 1)) := Lib.hid (fun he => take_eq_step HC.out hp hq he)
        clear hp hq
        have i1 : (k : Int) < (n : Int) := by omega
        by_cases hpr : p = r
        · subst hpr
          have ST1 := Lib.hid (ST.out (by first | rfl | trivial))
          clear ST NE
          go_wp2
          go_quiet (fail)
          go_wp2
          go_roundg (n - (k + 1))
          case measure => omega
          case rel => exact ⟨k + 1, _, by omega, by omega, by go_num, by first | rfl | rw [World.drewN_drewN], ST1⟩
        · have hne : ((p : Int) == (r : Int)) = false := by simp; omega
          have hno : x ≠ y := NE.out hpr
          have hf : Hid (res = false) := Lib.hid (by rw [← HR.out]; simp [hno])
          clear hno NE ST hpr
          go_wp2
          go_quiet (fail)
          go_wp2
          go_ret
          exact ⟨by rw [hf.out]; rfl, by first | exact Drawn.of _ _ | (rw [World.drewN_drewN]; exact Drawn.of _ _)⟩
      · obtain rfl : k = n := by omega
        have hxy : Hid (res = true) := Lib.hid (by
          rw [← HR.out, decide_eq_true_iff]
          have := HC.out
          rwa [List.take_of_length_le (by rw [Hn.out]; exact Nat.le_refl _), List.take_of_length_le (by rw [Hm.out]; exact Nat.le_refl _)] at this)
        go_wp2
        go_ret
        exact ⟨by rw [hxy.out]; rfl, Drawn.of _ _⟩
  · have hne : ((n : Int) != (m : Int)) = true := by simp; omega
    have hf : Hid (res = false) := Lib.hid (by
      rw [← HR.out, decide_eq_false_iff_not]
      intro e
      exact hnm (by rw [← Hn.out, ← Hm.out, e]))
    go_enter Tryd.func21, Tryd.ntmps21
    go_wp2
    go_ret
    exact ⟨by rw [hf.out]; rfl, Drawn.of w 0⟩

set_option maxRecDepth 100000 in
set_option maxHeartbeats 4000000 in
theorem lawHits_any (u : Value) (x : List (Nat × Nat)) (w : World) (hx : HRuns w u x) (hl : x.length ≤ 266240) :
    Calls Tryd.prog 20 #[u] w fun e w' => ∃ v, e = .returned v ∧ HRuns w' v x ∧ Below w.heap.size w w' := by
  obtain ⟨A, c, e⟩ := hx.slice
  subst e
  obtain ⟨n, hn⟩ : ∃ n, x.length = n := ⟨_, rfl⟩
  rw [hn] at hx hl ⊢
  have HN := Lib.hid hn; have HX := Lib.hid hx
  clear hn hx
  go_enter Tryd.func20, Tryd.ntmps20
  go_wp2
  go_loopw [3, 8] (fun s3 s8 wr => ∃ k : Nat, k ≤ n ∧ s8 = .int .i64 k ∧ Hid (wr.ownsRow w.heap.size 79 2 s3 (x.take k).length (gCells hitCell (x.take k))) ∧ Hid (Below w.heap.size w wr)) (fun _ s8 _ => n - (RowKit.intOf s8).toNat)
  case atStart => exact ⟨0, Nat.zero_le _, rfl, Lib.hid (World.ownsRow_nil _ _ _ _), Lib.hid (Below.refl _ _)⟩
  case round =>
    obtain ⟨k, hkn, rfl, HO, BW⟩ := hrel
    by_cases hk : k < n
    · have k1 : (k : Int) < (n : Int) := by omega
      obtain ⟨⟨p1, p2⟩, hp⟩ : ∃ p, x[k]? = some p := ⟨_, List.getElem?_eq_getElem (by rw [HN.out]; exact hk)⟩
      obtain ⟨b, o, rfl, _, hc⟩ := (HX.out.below BW.out).cells HN.out (by omega)
      have g0 := hc k _ hp 0 _ rfl
      have g1 := hc k _ hp 1 _ rfl
      rw [Nat.add_zero] at g0
      simp only at g0 g1
      have hal : Below wr.heap.size wr (wr.alloc (.cells #[.int .i64 (p1 : Int), .int .i64 (p2 : Int)] 50)) := (Below.refl _ _).alloc (Nat.le_refl _) _
      have b1 := BW.out.trans (hal.mono BW.out.size)
      obtain ⟨v7, w7, hrun7, ho7, hb7⟩ := push_rhit (own_below HO.out hal) b1.size (by rw [List.length_take, HN.out]; omega) p1 p2
      rw [World.size_alloc] at hrun7
      have e9 : x.take k ++ [(p1, p2)] = x.take (k + 1) := by rw [List.take_add_one, hp]; rfl
      have e10 : (x.take k).length + 1 = (x.take (k + 1)).length := by rw [← e9, List.length_append]; rfl
      rw [e9, e10] at ho7
      have HO7 := Lib.hid ho7; have HB7 := Lib.hid (b1.trans hb7); have H7 := Lib.hid hrun7
      clear hc hp hal b1 hrun7 ho7 hb7 e9 e10
      go_wp2_with (at_builtin; refine wpList_append_run (.tmp 12) (.tmp 14) 35 _ _ _ _ H7.out rfl rfl rfl rfl ?_)
      exact ⟨⟨k + 1, by omega, by go_num, HO7, HB7⟩, by simp [RowKit.intOf]; omega⟩
    · obtain rfl : k = n := by omega
      have HE : Hid (HRuns wr u3 x) := Lib.hid (by
        have h1 := HO.out
        rw [List.take_of_length_le (by rw [HN.out]; exact Nat.le_refl _)] at h1
        exact GRuns.of_own hit_len rfl h1)
      go_wp2
      go_ret
      exact ⟨_, rfl, HE.out, BW.out⟩
end Go.Proofs.YtbbkkoeipkigdaaDoor

/- A block more among blocks in order, by its place, plain; parts of a slice of blocks. -/
namespace Go.Proofs.YtbbkkoeipkigdaaDoor
open Go.RowKit Go.Shelf

/-- Where a block comes: behind all that stand ahead of it. -/
theorem ins_at (b : Blk) (out : List Blk) (k : Nat) (h1 : ∀ j y, j < k → out[j]? = some y → lessB y b = true) (h2 : k ≤ out.length) (h3 : ∀ y, out[k]? = some y → lessB y b = false) :
    (∀ x, out[k]? = some x → sameS x b → insB b out = out.set k (x.1, x.2.1, x.2.2 + b.2.2)) ∧ ((∀ x, out[k]? = some x → ¬ sameS x b) → insB b out = out.take k ++ [b] ++ out.drop k) := by
  induction out generalizing k with
  | nil =>
    obtain rfl : k = 0 := by simpa using h2
    refine ⟨fun x hx => by simp at hx, fun _ => by simp [insB]⟩
  | cons a out ih =>
    cases k with
    | zero =>
      have ha := h3 a (by simp)
      have ha' : ¬ lessB a b = true := by rw [ha]; simp
      refine ⟨fun x hx hs => ?_, fun hn => ?_⟩
      · obtain rfl : a = x := by simpa using hx
        rw [insB, if_neg ha', if_pos hs]; rfl
      · rw [insB, if_neg ha', if_neg (hn a (by simp))]; rfl
    | succ k =>
      have ha := h1 0 a (by omega) (by simp)
      obtain ⟨i1, i2⟩ := ih k (fun j y hj hy => h1 (j + 1) y (by omega) (by simpa using hy)) (by simpa using h2) (fun y hy => h3 y (by simpa using hy))
      refine ⟨fun x hx hs => ?_, fun hn => ?_⟩
      · rw [insB, if_pos ha, i1 x (by simpa using hx) hs]; rfl
      · rw [insB, if_pos ha, i2 (fun x hx => hn x (by simpa using hx))]; simp
/-- A cell of a row of blocks turned. -/
theorem gCells_setN (out : List Blk) (k : Nat) (x : Blk) (v : Int) (h : out[k]? = some x) : (gCells blkCell out).set (k * 3 + 2) (.int .i64 v) = gCells blkCell (out.set k (x.1, x.2.1, v)) := by
  induction out generalizing k with
  | nil => simp at h
  | cons a out ih =>
    cases k with
    | zero =>
      obtain rfl : a = x := by simpa using h
      rfl
    | succ k =>
      have := ih k (by simpa using h)
      show (blkCell a ++ gCells blkCell out).set ((k + 1) * 3 + 2) _ = blkCell a ++ gCells blkCell (out.set k _)
      rw [← this, show (k + 1) * 3 + 2 = (k * 3 + 2) + 3 by omega]
      rfl
/-- Parts of a slice. -/
theorem GRuns.front {α : Type} {enc : α → List Value} {k : Nat} {w : World} {A : Option Addr} {n c : Nat} {l : List α} (h : GRuns enc k w (.slice A n c) l) (hn : l.length = n) (m : Nat) (hm : m ≤ n) : GRuns enc k w (.slice A m c) (l.take m) := by
  obtain ⟨A', c', e, hc, hmx, hx⟩ := h
  rw [hn] at e hc hx
  obtain ⟨rfl, _, rfl⟩ := Value.slice.inj e
  have hl : (l.take m).length = m := by rw [List.length_take]; omega
  refine ⟨A, c, by rw [hl], by rw [hl]; omega, hmx, fun h0 => ?_⟩
  rw [hl] at h0
  obtain ⟨b, o, e2, hlt, hcell⟩ := hx (by omega)
  exact ⟨b, o, e2, hlt, fun j x hj i u hu => hcell j x (by rw [List.getElem?_take] at hj; split at hj; exact hj; cases hj) i u hu⟩
theorem GRuns.back {α : Type} {enc : α → List Value} {k : Nat} {w : World} {b o n c : Nat} {l : List α} (h : GRuns enc k w (.slice (some ⟨b, o, none⟩) n c) l) (hn : l.length = n) (m : Nat) (hm : m < n) : GRuns enc k w (.slice (some ⟨b, o + m * k, none⟩) (n - m) (c - m)) (l.drop m) := by
  obtain ⟨A', c', e, hc, ⟨hmx, _⟩, hx⟩ := h
  rw [hn] at e hc hx
  obtain ⟨e1, _, rfl⟩ := Value.slice.inj e
  have hl : (l.drop m).length = n - m := by rw [List.length_drop]; omega
  refine ⟨some ⟨b, o + m * k, none⟩, c - m, by rw [hl], by rw [hl]; omega, ⟨by omega, fun h => by cases h⟩, fun h0 => ?_⟩
  obtain ⟨b', o', e2, hlt, hcell⟩ := hx (by omega)
  have e3 := Option.some.inj (e1.trans e2)
  simp only [Addr.mk.injEq] at e3
  obtain ⟨rfl, rfl, _⟩ := e3
  refine ⟨b, o + m * k, rfl, hlt, fun j x hj i u hu => ?_⟩
  have := hcell (m + j) x (by rwa [List.getElem?_drop] at hj) i u hu
  rwa [show o + (m + j) * k + i = o + m * k + j * k + i by rw [Nat.add_mul]; omega] at this
theorem GRuns.none_ {α : Type} {enc : α → List Value} {k : Nat} {w : World} {A : Option Addr} {c : Nat} (hc : c ≤ maxLen) (hA : A = none → c = 0) : GRuns enc k w (.slice A 0 c) [] := ⟨A, c, rfl, Nat.zero_le _, ⟨hc, hA⟩, fun h => absurd h (by simp)⟩
end Go.Proofs.YtbbkkoeipkigdaaDoor

/- errataref06.gathered: blocks, each once, in order. -/
namespace Go.Proofs.YtbbkkoeipkigdaaDoor
open Go.RowKit Go.Shelf
set_option linter.unusedSimpArgs false
set_option linter.unusedVariables false

theorem blk_ln (x : Blk) : (blkCell x).length = 3 := rfl
theorem gat_take {l : List Blk} (k : Nat) (x : Blk) (h : l[k]? = some x) : gat (l.take (k + 1)) = insB x (gat (l.take k)) := by
  rw [List.take_add_one, h]; exact gat_snoc _ _
theorem own_lit43 (w : World) : (w.alloc (.cells #[] 121)).ownsRow w.heap.size 121 3 (.slice (some ⟨w.heap.size, 0, none⟩) 0 0) 0 [] :=
  ⟨by simp, .inr ⟨w.heap.size, 0, #[], rfl, Nat.le_refl _, heap_alloc_new w _, Nat.le_refl _, by simp [maxLen], by simp, by simp⟩⟩

/-- What a region with a call that makes memory keeps: a block of a row, a block in a box, all that is old. -/
structure KTwo (w : World) (b p c q : Nat) (y x : Blk) (w' : World) : Prop where
  a0 : w'.cell? ⟨b, p, none⟩ = some (.string y.1)
  a1 : w'.cell? ⟨b, p + 1, none⟩ = some (.string y.2.1)
  a2 : w'.cell? ⟨b, p + 2, none⟩ = some (.int .i64 y.2.2)
  b0 : w'.cell? ⟨c, q, none⟩ = some (.string x.1)
  b1 : w'.cell? ⟨c, q + 1, none⟩ = some (.string x.2.1)
  b2 : w'.cell? ⟨c, q + 2, none⟩ = some (.int .i64 x.2.2)
  lt : b < w'.heap.size
  lt' : c < w'.heap.size
  bel : Below w.heap.size w w'
theorem KTwo.step {w : World} {b p c q : Nat} {y x : Blk} {w' w'' : World} (h : KTwo w b p c q y x w') (hb : Below w'.heap.size w' w'') : KTwo w b p c q y x w'' :=
  ⟨(hb.cell (p := ⟨b, _, none⟩) h.lt).trans h.a0, (hb.cell (p := ⟨b, _, none⟩) h.lt).trans h.a1, (hb.cell (p := ⟨b, _, none⟩) h.lt).trans h.a2, (hb.cell (p := ⟨c, _, none⟩) h.lt').trans h.b0, (hb.cell (p := ⟨c, _, none⟩) h.lt').trans h.b1, (hb.cell (p := ⟨c, _, none⟩) h.lt').trans h.b2, Nat.lt_of_lt_of_le h.lt hb.size, Nat.lt_of_lt_of_le h.lt' hb.size, h.bel.trans (hb.mono h.bel.size)⟩

theorem own_litB (w : World) (b : Nat) (hb : b ≤ w.heap.size) : (w.alloc (.cells #[] 121)).ownsRow b 121 3 (.slice (some ⟨w.heap.size, 0, none⟩) 0 0) 0 [] :=
  ⟨by simp, .inr ⟨w.heap.size, 0, #[], rfl, hb, heap_alloc_new w _, Nat.le_refl _, by simp [maxLen], by simp, by simp⟩⟩
theorem blk_litR (w : World) (x : Blk) : GRuns blkCell 3 (w.alloc (.cells #[.string x.1, .string x.2.1, .int .i64 x.2.2] 121)) (.slice (some ⟨w.heap.size, 0, none⟩) 1 1) [x] := by
  have e0 := heap_alloc_new w (.cells #[.string x.1, .string x.2.1, .int .i64 x.2.2] 121)
  refine ⟨_, 1, rfl, Nat.le_refl _, ⟨by simp [maxLen], fun h => by cases h⟩, fun _ => ⟨w.heap.size, 0, rfl, by simp, fun j z hj i u hu => ?_⟩⟩
  obtain rfl : j = 0 := by have := (List.getElem?_eq_some_iff.1 hj).1; simpa using this
  obtain rfl : x = z := by simpa using hj
  rw [cell_of_row _ _ _ _ _ (0, 0) e0]
  simpa [blkCell] using hu
/-- A row that is kept where another block is turned. -/
theorem GRuns.aside {α : Type} {enc : α → List Value} {k : Nat} {w w' : World} {b o n c : Nat} {l : List α} {row : Option Nat} (h : GRuns enc k w (.slice (some ⟨b, o, none⟩) n c) l) (hg : w.grownBy w' row) (hne : some b ≠ row) : GRuns enc k w' (.slice (some ⟨b, o, none⟩) n c) l := by
  obtain ⟨A, c', e, hc, hm, hx⟩ := h
  refine ⟨A, c', e, hc, hm, fun h0 => ?_⟩
  obtain ⟨b', o', e2, hlt, hcell⟩ := hx h0
  obtain ⟨e1, _, _⟩ := Value.slice.inj e
  have e3 := Option.some.inj (e1.trans e2)
  simp only [Addr.mk.injEq] at e3
  obtain ⟨rfl, rfl, _⟩ := e3
  exact ⟨b, o, e2, Nat.lt_of_lt_of_le hlt hg.size, fun j x hj i u hu => (World.cell?_of_block (hg.block b hlt hne)).trans (hcell j x hj i u hu)⟩
/-- The ways in which two literals come to lie. -/
theorem lay_1 (D : World) (b : Nat) (hb : b ≤ D.heap.size) (x : Blk) : ((D.alloc (.cells #[] 121)).alloc (.cells #[.string x.1, .string x.2.1, .int .i64 x.2.2] 121)).ownsRow b 121 3 (.slice (some ⟨D.heap.size, 0, none⟩) 0 0) 0 [] ∧
    GRuns blkCell 3 ((D.alloc (.cells #[] 121)).alloc (.cells #[.string x.1, .string x.2.1, .int .i64 x.2.2] 121)) (.slice (some ⟨D.heap.size + 1, 0, none⟩) 1 1) [x] := by
  have h := blk_litR (D.alloc (.cells #[] 121)) x
  rw [World.size_alloc] at h
  exact ⟨(own_litB D b hb).alloc _, h⟩
theorem lay_2 (D : World) (b : Nat) (hb : b ≤ D.heap.size) (x : Blk) : ((D.alloc (.cells #[.string x.1, .string x.2.1, .int .i64 x.2.2] 121)).alloc (.cells #[] 121)).ownsRow b 121 3 (.slice (some ⟨D.heap.size + 1, 0, none⟩) 0 0) 0 [] ∧
    GRuns blkCell 3 ((D.alloc (.cells #[.string x.1, .string x.2.1, .int .i64 x.2.2] 121)).alloc (.cells #[] 121)) (.slice (some ⟨D.heap.size, 0, none⟩) 1 1) [x] := by
  have h := own_litB (D.alloc (.cells #[.string x.1, .string x.2.1, .int .i64 x.2.2] 121)) b (by simp; omega)
  rw [World.size_alloc] at h
  exact ⟨h, (blk_litR D x).below ((Below.refl _ _).alloc (Nat.le_refl _) _)⟩
theorem blw_1 (D : World) (o : Obj) : Below D.heap.size D (D.alloc o) := (Below.refl _ _).alloc (Nat.le_refl _) _
theorem blw_2 (D : World) (o o' : Obj) : Below D.heap.size D ((D.alloc o).alloc o') := ((Below.refl _ _).alloc (Nat.le_refl _) _).alloc (by simp) _
/-- What is known behind the first append, the second, the third. -/
structure ApK (w D : World) (t : List Blk) (v : Value) (W' : World) : Prop where
  own : W'.ownsRow w.heap.size 121 3 v t.length (gCells blkCell t)
  bel : Below D.heap.size D W'
  at_ : ∀ b, v.ownBlock = some b → D.heap.size ≤ b
/-- One append more, told in one word. -/
theorem ApK.next {w D W W' : World} {t ys : List Blk} {v v' : Value} {n : Nat} {xs : List Value} (hn : n = t.length) (hxs : xs = gCells blkCell t) (hD : w.heap.size ≤ D.heap.size) (hbW : Below D.heap.size D W) (hv : ∀ b, v.ownBlock = some b → D.heap.size ≤ b)
    (h1 : W'.ownsRow w.heap.size 121 3 v' (n + ys.length) (xs ++ gCells blkCell ys)) (h2 : W.grownBy W' v.ownBlock) (h3 : v'.ownBlock = v.ownBlock ∨ v'.ownBlock = some W.heap.size) : ApK w D (t ++ ys) v' W' := by
  subst hn hxs
  refine ⟨by rw [List.length_append, gCells_append]; exact h1, hbW.grown h2 hbW.size (fun b hb => hv b hb), fun b hb => ?_⟩
  rcases h3 with e | e
  · rw [e] at hb; exact hv b hb
  · rw [e] at hb
    have := hbW.size
    obtain rfl : W.heap.size = b := by simpa using hb
    exact this

end Go.Proofs.YtbbkkoeipkigdaaDoor

/- How long texts are together; blocks that are looked at. -/
namespace Go.Proofs.YtbbkkoeipkigdaaDoor
open Go.RowKit Go.Shelf
set_option linter.unusedSimpArgs false
set_option linter.unusedVariables false

/-- Texts together. -/
def smT (l : List Blk) : Nat := (l.map (fun b => b.1.size + b.2.1.size)).sum
theorem smT_take {l : List Blk} (k : Nat) (x : Blk) (h : l[k]? = some x) : smT (l.take (k + 1)) = smT (l.take k) + (x.1.size + x.2.1.size) := by
  rw [List.take_add_one, h]; simp [smT]
theorem smT_mem (l : List Blk) : ∀ b ∈ l, b.1.size + b.2.1.size ≤ smT l := by
  induction l with
  | nil => simp
  | cons a l ih =>
    intro b hb
    have e : smT (a :: l) = a.1.size + a.2.1.size + smT l := by simp [smT]
    rw [e]
    rcases List.mem_cons.1 hb with rfl | hb
    · omega
    · have := ih b hb; omega
theorem smT_le {l : List Blk} {c : Nat} (h : ∀ b ∈ l, b.1.size ≤ c ∧ b.2.1.size ≤ c) (k : Nat) : smT (l.take k) ≤ k * (2 * c) := by
  induction k with
  | zero => simp [smT]
  | succ k ih =>
    cases hx : l[k]? with
    | none =>
      rw [List.take_add_one, hx]
      simp only [Option.toList_none, List.append_nil]
      rw [Nat.succ_mul]; omega
    | some x =>
      have := h x (List.mem_of_getElem? hx)
      rw [smT_take k x hx, Nat.succ_mul]; omega
/-- Texts as long as a text may be. -/
def szM (l : List Blk) : Prop := ∀ b ∈ l, b.1.size ≤ 140737488355328 ∧ b.2.1.size ≤ 140737488355328
/-- Blocks that are looked at. -/
def notGreat (l : List Blk) : Prop := l.length ≤ 500 ∧ ∀ b ∈ l, b.1.size ≤ 8000 ∧ b.2.1.size ≤ 8000
theorem notGreat.szB {l : List Blk} (h : notGreat l) : szB l := fun b hb => by have := h.2 b hb; omega
theorem notGreat.szL {l : List Blk} (h : notGreat l) : szL l := szL_of h.szB

theorem lit_blks (D : World) (L : List Blk) (h : L.length ≤ 1000) : GRuns blkCell 3 (D.alloc (.cells (gCells blkCell L).toArray 121)) (.slice (some ⟨D.heap.size, 0, none⟩) L.length L.length) L := by
  refine GRuns.of_own (base := 0) (n := L.length) blk_ln rfl ⟨gCells_len blk_ln L, .inr ⟨D.heap.size, L.length, (gCells blkCell L).toArray, rfl, Nat.zero_le _, heap_alloc_new D _, Nat.le_refl _, by unfold maxLen; omega, ?_, ?_⟩⟩
  · rw [List.size_toArray, gCells_len blk_ln]
  · show (gCells blkCell L).take (L.length * 3) = _
    rw [List.take_of_length_le (by rw [gCells_len blk_ln]; exact Nat.le_refl _)]
end Go.Proofs.YtbbkkoeipkigdaaDoor

/- great, alive of layer 8: which rules and texts are looked at; the document's example. -/
namespace Go.Proofs.YtbbkkoeipkigdaaDoor
open Go.RowKit Go.Shelf
set_option linter.unusedSimpArgs false
set_option linter.unusedVariables false

/-- Whether rules, or a text, are more than are looked at. -/
def grB8 (l : List Blk) (s : Nat) : Bool := decide (200 < l.length) || decide (3000 < s + smT l)
theorem grB8_no {l : List Blk} {s : Nat} (h : grB8 l s = false) : l.length ≤ 200 ∧ s ≤ 3000 ∧ szL l := by
  unfold grB8 at h
  rw [Bool.or_eq_false_iff] at h
  have h1 := of_decide_eq_false h.1
  have h2 := of_decide_eq_false h.2
  exact ⟨by omega, by omega, fun b hb => by have := smT_mem l b hb; omega⟩
set_option maxRecDepth 100000 in
set_option maxHeartbeats 4000000 in
theorem great8_det (u : Value) (l : List Blk) (t : ByteArray) (w : World) (hu : BRuns w u l) (hz : szM l) (ht : t.size ≤ 140737488355328 * 10) :
    Calls Tryd.prog 10 #[u, .string t] w fun e w' => e = .returned (.bool (grB8 l t.size)) ∧ Below w.heap.size w w' := by
  have hgr : grB8 l t.size = (decide (200 < l.length) || decide (3000 < t.size + smT l)) := rfl
  obtain ⟨res, hres⟩ : ∃ z, grB8 l t.size = z := ⟨_, rfl⟩
  rw [hres] at hgr ⊢
  have HGR := Lib.hid hgr; clear hgr hres
  have hcm : l.length ≤ maxLen := by
    obtain ⟨_, c, _, h1, h2, _⟩ := hu
    exact Nat.le_trans h1 h2.1
  obtain ⟨A, c, e⟩ := hu.slice
  subst e
  have HU := Lib.hid hu; clear hu
  obtain ⟨n, hn⟩ : ∃ n, l.length = n := ⟨_, rfl⟩
  rw [hn] at HU hcm ⊢
  have HN := Lib.hid hn
  unfold maxLen at hcm
  obtain ⟨ts, hts⟩ : ∃ z, t.size = z := ⟨_, rfl⟩
  rw [hts] at ht
  have hlen : (t.size : Int) = (ts : Int) := by rw [hts]
  have HTS := Lib.hid hts
  clear hts
  by_cases hbig : 200 < n
  · clear hz hn
    go_enter Tryd.func10, Tryd.ntmps10
    go_wp2
    go_loopw [5, 12] (fun s3 s8 wr => ∃ (k : Nat) (s : Int), k ≤ n ∧ s8 = .int .i64 k ∧ s3 = .int .i64 s ∧ Hid (Below w.heap.size w wr)) (fun _ s8 _ => n - (RowKit.intOf s8).toNat)
    case atStart => exact ⟨0, _, Nat.zero_le _, rfl, rfl, Lib.hid (Below.refl _ _)⟩
    case round =>
      obtain ⟨k, s, hkn, rfl, rfl, BW⟩ := hrel
      by_cases hk : k < n
      · have k1 : (k : Int) < (n : Int) := by omega
        obtain ⟨⟨p1, p2, p3⟩, hp⟩ : ∃ p, l[k]? = some p := ⟨_, List.getElem?_eq_getElem (by rw [HN.out]; exact hk)⟩
        obtain ⟨b, o, rfl, _, hc⟩ := (HU.out.below BW.out).cells HN.out (by omega)
        obtain ⟨g0, g1, g2⟩ := blk_cells hc hp
        simp only at g0 g1 g2
        have hal : Hid (Below w.heap.size w (wr.alloc (.cells #[.string p1, .string p2, .int .i64 p3] 55))) := Lib.hid (BW.out.alloc BW.out.size _)
        clear hc hp
        go_wp2
        exact ⟨⟨k + 1, _, by omega, by go_num, rfl, hal⟩, by simp [RowKit.intOf]; omega⟩
      · obtain rfl : k = n := by omega
        have h5 : (200 : Int) < (k : Int) := by omega
        have hr : Hid (res = true) := Lib.hid (by rw [HGR.out, HN.out, decide_eq_true hbig]; rfl)
        go_wp2
        go_ret
        exact ⟨by rw [hr.out]; rfl, BW.out⟩
  · have hb' := smT_le (l := l) (c := 140737488355328) hz
    obtain ⟨sm, hsm⟩ : ∃ f, f = fun k => ts + smT (l.take k) := ⟨_, rfl⟩
    have hst : ∀ k x, l[k]? = some x → sm (k + 1) = sm k + (x.1.size + x.2.1.size) := fun k x hx => by rw [hsm]; simp only; rw [smT_take k x hx]; omega
    have hbd : ∀ k, sm k ≤ ts + k * (2 * 140737488355328) := fun k => by rw [hsm]; have := hb' k; simp only; omega
    have h0 : sm 0 = ts := by rw [hsm]; simp [smT]
    have hfin : ts + smT l = sm n := by
      rw [hsm]
      simp only
      rw [List.take_of_length_le (by rw [hn]; exact Nat.le_refl _)]
    have ST := Lib.hid hst; have BD := Lib.hid hbd; have HF := Lib.hid hfin; have HZ := Lib.hid hz; have H0 := Lib.hid h0
    clear hst hbd hfin hsm hb' hz hn h0
    go_enter Tryd.func10, Tryd.ntmps10
    go_wp2
    go_loopw [5, 12] (fun s3 s8 wr => ∃ k : Nat, k ≤ n ∧ s8 = .int .i64 k ∧ s3 = .int .i64 (sm k : Nat) ∧ Hid (Below w.heap.size w wr)) (fun _ s8 _ => n - (RowKit.intOf s8).toNat)
    case atStart => exact ⟨0, Nat.zero_le _, rfl, by rw [H0.out], Lib.hid (Below.refl _ _)⟩
    case round =>
      obtain ⟨k, hkn, rfl, rfl, BW⟩ := hrel
      have bk := BD.out k
      obtain ⟨s, es⟩ : ∃ s, sm k = s := ⟨_, rfl⟩
      rw [es] at bk ⊢
      have HES := Lib.hid es; clear es
      by_cases hk : k < n
      · have k1 : (k : Int) < (n : Int) := by omega
        obtain ⟨⟨p1, p2, p3⟩, hp⟩ : ∃ p, l[k]? = some p := ⟨_, List.getElem?_eq_getElem (by rw [HN.out]; exact hk)⟩
        obtain ⟨b, o, rfl, _, hc⟩ := (HU.out.below BW.out).cells HN.out (by omega)
        obtain ⟨g0, g1, g2⟩ := blk_cells hc hp
        simp only at g0 g1 g2
        have hs1 := ST.out k _ hp
        have hz1 := HZ.out _ (List.mem_of_getElem? hp)
        simp only at hs1 hz1
        rw [HES.out] at hs1
        have HS1 := Lib.hid hs1
        have w1 : IntKind.i64.wrap ((p1.size : Int) + (p2.size : Int)) = (p1.size : Int) + (p2.size : Int) := by rw [IntKind.wrap_i64]; omega
        have w2 : IntKind.i64.wrap ((s : Int) + ((p1.size : Int) + (p2.size : Int))) = (s : Int) + ((p1.size : Int) + (p2.size : Int)) := by rw [IntKind.wrap_i64]; omega
        have hal : Hid (Below w.heap.size w (wr.alloc (.cells #[.string p1, .string p2, .int .i64 p3] 55))) := Lib.hid (BW.out.alloc BW.out.size _)
        clear hc hp hs1
        go_wp2
        exact ⟨⟨k + 1, by omega, by go_num, by rw [HS1.out]; simp, hal⟩, by simp [RowKit.intOf]; omega⟩
      · obtain rfl : k = n := by omega
        have h5 : ¬ (200 : Int) < (k : Int) := by omega
        by_cases h8 : 3000 < s
        · have h8' : (3000 : Int) < (s : Int) := by omega
          have hr : Hid (res = true) := Lib.hid (by rw [HGR.out, HTS.out, HF.out, HES.out, decide_eq_true h8, Bool.or_true])
          go_wp2
          go_ret
          exact ⟨by rw [hr.out]; rfl, BW.out⟩
        · have h8' : ¬ (3000 : Int) < (s : Int) := by omega
          have hr : Hid (res = false) := Lib.hid (by rw [HGR.out, HTS.out, HF.out, HES.out, HN.out, decide_eq_false h8, decide_eq_false hbig]; rfl)
          go_wp2
          go_ret
          exact ⟨by rw [hr.out]; rfl, BW.out⟩

/-- The document's example. -/
def Alive8 : Prop := ∀ w, Okw w → Calls Tryd.prog 9 #[] w fun e w' => e = .returned (.bool true) ∧ Below w.heap.size w w'
def exL : List Blk := [(⟨#[110]⟩, ⟨#[120]⟩, 1), (⟨#[114, 110]⟩, ⟨#[109]⟩, 1)]
theorem ex8 : risS exL = 0 ∧ htS exL [97, 114, 110] = [(1, 1), (2, 0)] ∧ rdE [97, 114, 110] = 0 ∧ statesP (frs exL) = 4 := by
  decide +kernel
theorem lit_rl (w : World) : BRuns (w.alloc (.cells #[.string ⟨#[110]⟩, .string ⟨#[120]⟩, .int .i64 1, .string ⟨#[114, 110]⟩, .string ⟨#[109]⟩, .int .i64 1] 55)) (.slice (some ⟨w.heap.size, 0, none⟩) 2 2) exL := by
  refine GRuns.of_own (enc := blkCell) (k := 3) (base := 0) (n := 2) (l := exL) (fun _ => rfl) rfl ⟨rfl, .inr ⟨w.heap.size, 2, _, rfl, Nat.zero_le _, heap_alloc_new w _, Nat.le_refl _, by unfold maxLen; omega, rfl, rfl⟩⟩
set_option maxRecDepth 100000 in
set_option maxHeartbeats 4000000 in
theorem alive8_any : Alive8 := by
  intro w h
  have r0 := lit_rl w
  have b0 : Below w.heap.size w (w.alloc (.cells #[.string ⟨#[110]⟩, .string ⟨#[120]⟩, .int .i64 1, .string ⟨#[114, 110]⟩, .string ⟨#[109]⟩, .int .i64 1] 55)) := (Below.refl _ _).alloc (Nat.le_refl _) _
  obtain ⟨wa, hwa⟩ : ∃ z, w.alloc (.cells #[.string ⟨#[110]⟩, .string ⟨#[120]⟩, .int .i64 1, .string ⟨#[114, 110]⟩, .string ⟨#[109]⟩, .int .i64 1] 55) = z := ⟨_, rfl⟩
  rw [hwa] at r0 b0
  have c1 := new_any (.slice (some ⟨w.heap.size, 0, none⟩) 2 2) exL wa (h.below b0) r0 (by decide) (fun b hb => by
    simp only [exL, List.mem_cons, List.mem_nil_iff, or_false] at hb
    rcases hb with rfl | rfl <;> exact ⟨by decide, by decide⟩)
  have hr := mrules_of ex8.1
  rw [ex8.1] at c1
  have c2 := fun p W hO hM => hits_any p exL ⟨#[97, 114, 110]⟩ W hO (by decide) hr hM
  have e1 : (⟨#[97, 114, 110]⟩ : ByteArray).data.toList = [97, 114, 110] := rfl
  simp only [e1, ex8.2.1, ex8.2.2.1] at c2
  have c3 := fun p W hM => states_any p exL W hM
  simp only [ex8.2.2.2] at c3
  have C1 := Lib.hid c1; have C2 := Lib.hid c2; have C3 := Lib.hid c3; have HWA := Lib.hid hwa; have HB0 := Lib.hid b0; have HOK := Lib.hid (h.below b0)
  have C4 := Lib.hid (hits_nil ⟨#[97]⟩)
  clear c1 c2 c3 hwa b0 r0 hr e1
  go_enter Tryd.func9, Tryd.ntmps9
  go_wp2_with fail
  rw [HWA.out]
  refine C1.out.mono ?_
  rintro e w1 ⟨mv, rfl, hN, b1⟩
  rcases hN with ⟨h0, _⟩ | ⟨_, p, rfl, _, hM⟩
  · exact absurd rfl h0
  have K1 : Hid (Okw w1) := Lib.hid (HOK.out.below b1)
  have B1 := Lib.hid (HB0.out.trans (b1.mono HB0.out.size))
  have CC2 := Lib.hid (C2.out p w1 K1.out hM)
  have HM1 := Lib.hid hM
  clear hM b1 C1 C2
  go_wp2_with fail
  refine CC2.out.mono ?_
  rintro e w2 ⟨v2, rfl, hr2, hb2⟩
  have CC3 := Lib.hid (C3.out p w2 (HM1.out.below hb2))
  have B2 := Lib.hid (B1.out.trans (hb2.mono B1.out.size))
  obtain ⟨A2, c2, rfl⟩ := GRuns.slice hr2
  obtain ⟨b, o, rfl, hlt, hc⟩ := hr2.cells rfl (by simp)
  have g0 := hc 0 _ rfl 0 _ rfl
  have g1 := hc 0 _ rfl 1 _ rfl
  have g2 := hc 1 _ rfl 0 _ rfl
  have g3 := hc 1 _ rfl 1 _ rfl
  simp at g0 g1 g2 g3
  clear hr2 hb2 hc CC2
  simp only [List.length_cons, List.length_nil, Nat.zero_add]
  go_wp2_with (first | (go_at_call 15; refine (C4.out _).mono ?_; rintro e w4 ⟨rfl, rfl⟩) | (go_at_call 13; refine CC3.out.mono ?_; rintro e w4 ⟨rfl, rfl⟩))
  go_ret
  exact ⟨rfl, B2.out⟩
end Go.Proofs.YtbbkkoeipkigdaaDoor

/- MatchPlaces, walked over what match's functions answer. -/
namespace Go.Proofs.YtbbkkoeipkigdaaDoor
open Go.RowKit Go.Shelf
set_option linter.unusedSimpArgs false
set_option linter.unusedVariables false

theorem szM_of {l : List Blk} (h : szL l) : szM l := fun b hb => ⟨Nat.le_trans (h b hb).1 (by decide), Nat.le_trans (h b hb).2 (by decide)⟩
theorem hitsTo_pre (X : Nat → List Nat) (a : Nat) : ∀ n, a ≤ n → hitsTo X a <+: hitsTo X n := by
  intro n
  induction n with
  | zero =>
    intro h
    obtain rfl : a = 0 := by omega
    exact List.prefix_refl _
  | succ n ih =>
    intro h
    by_cases e : a = n + 1
    · subst e; exact List.prefix_refl _
    · rw [hitsTo_succ]
      exact (ih (by omega)).trans (List.prefix_append _ _)
theorem hitsTo_get (X : Nat → List Nat) {a n j i : Nat} (ha : a < n) (hj : (X a)[j]? = some i) : (hitsTo X n)[(hitsTo X a).length + j]? = some (a, i) := by
  obtain ⟨t, ht⟩ := hitsTo_pre X (a + 1) n (by omega)
  have hl : j < (X a).length := (List.getElem?_eq_some_iff.1 hj).1
  rw [← ht, hitsTo_succ, List.append_assoc, List.getElem?_append_right (by omega), Nat.add_sub_cancel_left, List.getElem?_append_left (by simpa using hl), List.getElem?_map, hj]
  rfl
theorem atE_in {s : List UInt8} {k : Nat} (h : rdE s = 0) (hk : k ≤ (items s).length) : atE s (k : Int) = 0 := by
  unfold atE
  rw [if_pos h, if_neg (by omega)]
theorem atS_in {L : List Blk} {s : List UInt8} {k : Nat} (h : rdE s = 0) (hk : k ≤ (items s).length) : atS L s (k : Int) = atP (frs L) (items s) k := by
  unfold atS
  rw [if_pos (atE_in h hk)]
  rfl
theorem atE_out {s : List UInt8} {a : Int} (h : rdE s = 0) (ha : a < 0 ∨ ((items s).length : Int) < a) : atE s a = 2 := by
  unfold atE
  rw [if_pos h, if_pos ha]

set_option maxRecDepth 100000 in
set_option maxHeartbeats 8000000 in
theorem matchPlaces_walk (u : Value) (L : List Blk) (s : ByteArray) (w : World) (h : Okw w) (hu : BRuns w u L) (hl : L.length ≤ 2000000) (hz : szL L) (hs : s.size ≤ 2000000) :
    Calls Tryd.prog 6 #[u, .string s] w (RetTrue w) := by
  have cn := fun W hO hu => new_any u L W hO hu hl hz
  have cg := fun W hu => great8_det u L s W hu (szM_of hz) (by omega)
  have ch := fun p W hO hr hM => hits_any p L s W hO (by omega) hr hM
  have ca := fun p a W hO hr hM => at_any p L s a W hO (by omega) hr hM
  have cd := fun W (hO : Okw W) => decode_runs s W (by omega) hO.1 hO.2
  have hmr := fun h => @mrules_of L h
  obtain ⟨A, c, e⟩ := hu.slice
  obtain ⟨n, hn⟩ : ∃ n, L.length = n := ⟨_, rfl⟩
  rw [hn] at e
  subst e
  obtain ⟨er, her⟩ : ∃ z, risS L = z := ⟨_, rfl⟩
  simp only [her] at cn hmr
  obtain ⟨gr, hgr⟩ : ∃ z, grB8 L s.size = z := ⟨_, rfl⟩
  simp only [hgr] at cg
  have CN := Lib.hid cn; have CG := Lib.hid cg; have CH := Lib.hid ch; have CA := Lib.hid ca; have CD := Lib.hid cd; have HMR := Lib.hid hmr
  have HU := Lib.hid hu; have HOK := Lib.hid h
  have AL := Lib.hid alive8_any
  clear cn cg ch ca cd hmr hu h hn her hgr hz
  go_enter Tryd.func6, Tryd.ntmps6
  go_wp2_with fail
  refine (AL.out _ HOK.out).mono ?_
  rintro e w1 ⟨rfl, b1⟩
  have B1 := Lib.hid b1
  clear b1
  go_wp2_with fail
  refine (CN.out w1 (HOK.out.below B1.out) (HU.out.below B1.out)).mono ?_
  rintro e w2 ⟨mv, rfl, hN, b2⟩
  have B2 := Lib.hid (B1.out.trans (b2.mono B1.out.size))
  have HN := Lib.hid hN
  clear b2 hN B1
  go_wp2_with fail
  refine (CG.out w2 (HU.out.below B2.out)).mono ?_
  rintro e w3 ⟨rfl, b3⟩
  have B23 := Lib.hid b3
  have B3 := Lib.hid (B2.out.trans (b3.mono B2.out.size))
  clear b3
  cases gr with
  | true =>
    go_wp2
    go_ret
    exact ⟨rfl, B3.out⟩
  | false =>
  by_cases h0 : er = 0
  rotate_left
  · have hne : (er != 0) = true := by simpa using h0
    go_wp2
    go_ret
    exact ⟨rfl, B3.out⟩
  subst h0
  obtain ⟨p, rfl, hM⟩ : ∃ p, mv = .pointer (some ⟨p, 0, none⟩) ∧ MachOk w3 p L := by
    rcases HN.out with ⟨h, _⟩ | ⟨_, p, e, _, hM⟩
    · exact absurd rfl h
    · exact ⟨p, e, hM.below B23.out⟩
  have hR := HMR.out (by first | rfl | trivial)
  have K3 := Lib.hid (HOK.out.below B3.out)
  have HM := Lib.hid hM; have HR := Lib.hid hR
  clear hM hR HN B23 HMR CN CG AL
  go_wp2_with fail
  refine (CH.out p w3 K3.out HR.out HM.out).mono ?_
  rintro e w4 ⟨v4, rfl, hr4, b4⟩
  have HM4 := Lib.hid (HM.out.below b4)
  have K4 := Lib.hid (K3.out.below b4)
  have B4 := Lib.hid (B3.out.trans (b4.mono B3.out.size))
  have H4 := Lib.hid hr4
  clear b4 hr4 HM K3 CH
  go_wp2_with fail
  refine (CD.out w4 K4.out).mono ?_
  rintro e w5 ⟨A5, c5, rfl, hr5, b5⟩
  have HM5 := Lib.hid (HM4.out.below b5)
  have K5 := Lib.hid (K4.out.below b5)
  have B5 := Lib.hid (B4.out.trans (b5.mono B4.out.size))
  have H5 := Lib.hid (H4.out.below b5)
  clear b5 hr5 HM4 K4 H4 CD
  have hht : htS L s.data.toList = if rdE s.data.toList = 0 then hitsP (frs L) (items s.data.toList) else [] := rfl
  have hok := fun h => @rdE_ok s.data.toList h
  have hin : rdE s.data.toList = 0 → ∀ k : Nat, k ≤ (items s.data.toList).length → atE s.data.toList (k : Int) = 0 ∧ atS L s.data.toList (k : Int) = atP (frs L) (items s.data.toList) k := fun h k hk => ⟨atE_in h hk, atS_in h hk⟩
  have hout : rdE s.data.toList = 0 → ∀ a : Int, (a < 0 ∨ ((items s.data.toList).length : Int) < a) → atE s.data.toList a = 2 := fun h a ha => atE_out h ha
  obtain ⟨e2, he2⟩ : ∃ z, rdE s.data.toList = z := ⟨_, rfl⟩
  obtain ⟨H, hH⟩ : ∃ z, htS L s.data.toList = z := ⟨_, rfl⟩
  rw [he2, hH] at hht
  rw [he2] at hok hin hout ⊢
  rw [hH] at H5
  have HHT := Lib.hid hht; have HOK2 := Lib.hid hok; have HIN := Lib.hid hin; have HOUT := Lib.hid hout
  clear hht hok hin hout he2 hH
  by_cases hz0 : e2 = 0
  rotate_left
  · have hne : (e2 != 0) = true := by simpa using hz0
    go_wp2
    go_ret
    exact ⟨rfl, B5.out⟩
  subst hz0
  obtain ⟨_, hl64, hdx, hde⟩ := HOK2.out (by first | rfl | trivial)
  have hHe : H = hitsP (frs L) (items s.data.toList) := by rw [HHT.out, if_pos (by first | rfl | trivial)]
  have hi := HIN.out (by first | rfl | trivial)
  have ho := HOUT.out (by first | rfl | trivial)
  rw [hdx]
  obtain ⟨x, hx⟩ : ∃ z, items s.data.toList = z := ⟨_, rfl⟩
  rw [hx] at hl64 hHe hi ho ⊢
  obtain ⟨m, hm⟩ : ∃ z, x.length = z := ⟨_, rfl⟩
  have hHh : H = hitsTo (atP (frs L) x) (m + 1) := by rw [hHe, ← hm]; rfl
  rw [hm] at hl64 hi ho ⊢
  obtain ⟨Ah, ch, rfl⟩ := GRuns.slice H5.out
  obtain ⟨q, hq⟩ : ∃ z, H.length = z := ⟨_, rfl⟩
  rw [hq] at H5
  have HH := Lib.hid hHh; have HI := Lib.hid hi; have HO := Lib.hid ho; have HQ := Lib.hid hq
  rw [hq]
  clear hHe hHh hi ho hdx hde hx hm hq HHT HOK2 HIN HOUT
  go_wp2
  go_loopw [11, 51] (fun s11 s51 wr => ∃ a : Nat, a ≤ m + 1 ∧ s51 = .int .i64 (a : Int) ∧ s11 = .int .i64 ((hitsTo (atP (frs L) x) a).length : Nat) ∧ Hid (Below w5.heap.size w5 wr)) (fun _ s51 _ => m + 1 - (RowKit.intOf s51).toNat)
  case atStart => exact ⟨0, Nat.zero_le _, rfl, rfl, Lib.hid (Below.refl _ _)⟩
  case round =>
    obtain ⟨a, ha, rfl, rfl, BW⟩ := hrel
    by_cases ha1 : a < m + 1
    · have a1 : (a : Int) < (m : Int) + 1 := by omega
      have cA := CA.out p (a : Int) wr (K5.out.below BW.out) HR.out (HM5.out.below BW.out)
      obtain ⟨i1, i2⟩ := HI.out a (by omega)
      rw [i1, i2] at cA
      obtain ⟨X, hX⟩ : ∃ z, atP (frs L) x a = z := ⟨_, rfl⟩
      have hget : ∀ j i, X[j]? = some i → H[(hitsTo (atP (frs L) x) a).length + j]? = some (a, i) := fun j i hj => by rw [HH.out]; exact hitsTo_get _ ha1 (by rw [hX]; exact hj)
      have hnx : (hitsTo (atP (frs L) x) (a + 1)).length = (hitsTo (atP (frs L) x) a).length + X.length := by rw [hitsTo_succ, List.length_append, List.length_map, hX]
      rw [hX] at cA
      obtain ⟨t, ht⟩ : ∃ z, (hitsTo (atP (frs L) x) a).length = z := ⟨_, rfl⟩
      rw [ht] at hget hnx ⊢
      obtain ⟨xl, hxl⟩ : ∃ z, X.length = z := ⟨_, rfl⟩
      rw [hxl] at hnx
      have CAA := Lib.hid cA; have HG := Lib.hid hget; have HNX := Lib.hid hnx; have HXL := Lib.hid hxl; have HT := Lib.hid ht
      have hbd : t + xl ≤ 2000000 := by
        have h1 : (hitsTo (atP (frs L) x) (a + 1)).length ≤ (a + 1) * 4096 := hitsTo_len _ 4096 (fun b => Nat.le_trans (atP_len _ _ _) HR.out.many) _
        rw [hnx] at h1
        omega
      clear cA hget hnx hxl ht hX i1 i2
      go_wp2_with fail
      refine CAA.out.mono ?_
      rintro e w6 ⟨v6, rfl, hr6, b6⟩
      obtain ⟨A6, c6, rfl⟩ := GRuns.slice hr6
      rw [HXL.out] at hr6 ⊢
      have HR6 := Lib.hid hr6
      have B6 := Lib.hid (BW.out.trans (b6.mono BW.out.size))
      clear hr6 b6 CAA
      go_wp2
      go_loop [11, 65] (fun s11 s65 => ∃ j : Nat, j ≤ xl ∧ s65 = .int .i64 (j : Int) ∧ s11 = .int .i64 ((t + j : Nat) : Int)) (fun _ s65 => xl - (RowKit.intOf s65).toNat)
      case atStart => exact ⟨0, Nat.zero_le _, rfl, rfl⟩
      case round =>
        obtain ⟨j, hj, rfl, rfl⟩ := hrel
        by_cases hj1 : j < xl
        · have j1 : (j : Int) < (xl : Int) := by omega
          obtain ⟨i, hi⟩ : ∃ i, X[j]? = some i := ⟨_, List.getElem?_eq_getElem (by rw [HXL.out]; exact hj1)⟩
          obtain ⟨bb, oo, rfl, _, hcc⟩ := HR6.out.cells HXL.out (by omega)
          have g1 := hcc j i hi 0 _ rfl
          rw [Nat.mul_one, Nat.add_zero] at g1
          have hh := HG.out j i hi
          have hlt := (List.getElem?_eq_some_iff.1 hh).1
          rw [HQ.out] at hlt
          obtain ⟨b7, o7, rfl, _, hcc7⟩ := (H5.out.below B6.out).cells HQ.out (by omega)
          have f0 := hcc7 _ _ hh 0 _ rfl
          have f1 := hcc7 _ _ hh 1 _ rfl
          rw [Nat.add_zero] at f0
          simp only at f0 f1
          obtain ⟨z, hz⟩ : ∃ z, t + j = z := ⟨_, rfl⟩
          rw [hz] at f0 f1 hlt ⊢
          have hw : ((t + (j + 1) : Nat) : Int) = (z : Int) + 1 := by omega
          have HW := Lib.hid hw
          have z1 : ¬ ((q : Int) ≤ (z : Int)) := by omega
          have z2 : (z : Int) < (q : Int) := by omega
          have z3 : z ≤ 2000000 := by omega
          clear hcc hcc7 hi hh hw hz
          go_wp2
          exact ⟨⟨j + 1, by omega, by go_num, by rw [HW.out]⟩, by simp [RowKit.intOf]; omega⟩
        · obtain rfl : j = xl := by omega
          have HE : Hid ((hitsTo (atP (frs L) x) (a + 1)).length = t + j) := Lib.hid HNX.out
          go_wp2
          exact ⟨⟨a + 1, by omega, by go_num, by rw [HE.out], B6⟩, by simp [RowKit.intOf]; omega⟩
    · obtain rfl : a = m + 1 := by omega
      have a1 : ¬ (((m + 1 : Nat) : Int)) < (m : Int) + 1 := by omega
      have hlq : (hitsTo (atP (frs L) x) (m + 1)).length = q := by rw [← HH.out, HQ.out]
      rw [hlq]
      have cA := CA.out p ((m : Int) + 1) wr (K5.out.below BW.out) HR.out (HM5.out.below BW.out)
      rw [HO.out _ (.inr (by omega))] at cA
      have CA1 := Lib.hid cA
      clear cA hlq
      go_wp2_with fail
      refine CA1.out.mono ?_
      rintro e w6 ⟨v6, rfl, _, b6⟩
      have B6 := Lib.hid (BW.out.trans (b6.mono BW.out.size))
      have cA := CA.out p (-1) w6 (K5.out.below B6.out) HR.out (HM5.out.below B6.out)
      rw [HO.out _ (.inl (by omega))] at cA
      have CA2 := Lib.hid cA
      clear cA b6 CA1
      go_wp2_with fail
      refine CA2.out.mono ?_
      rintro e w7 ⟨v7, rfl, _, b7⟩
      have B7 := Lib.hid (B5.out.trans ((B6.out.trans (b7.mono B6.out.size)).mono B5.out.size))
      clear b7
      go_wp2
      go_ret
      exact ⟨by simp, B7.out⟩
end Go.Proofs.YtbbkkoeipkigdaaDoor

