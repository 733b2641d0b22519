/- Texts that several proofs of this seat share, one behind the other: HCheck BRows BRefRows BOf DLess QPlain HRng TSeq HRows HBlocks HSeq HOf HLong BOf2 BLaw1. -/
import Derived.Test.YtbbkkoeipkigdaaDoorPk6
import Derived.Test.YtbbkkoeipkigdaaDoorPk1
import Derived.Test.YtbbkkoeipkigdaaDoorPk4
import Derived.Test.YtbbkkoeipkigdaaDoorPk5
import Derived.Shelf.SlSortCmp.WholeK
import Derived.Test.YtbbkkoeipkigdaaDoorShelf2
import Derived.RangeFuncNested
import Derived.RangeFuncLeaves
import Derived.Test.YtbbkkoeipkigdaaDoorPk2
import Derived.WalkMore
import Derived.BigRegion
/- block.Check, Less: whether a block may be; which of two stands ahead. -/
namespace Go.Proofs.YtbbkkoeipkigdaaDoor
open Go.RowKit Go.Shelf

set_option maxRecDepth 100000 in
set_option maxHeartbeats 4000000 in
theorem chk_any (a b : ByteArray) (N : Int) (w : World) (hO : Okw w) (ha : a.size * 4 ≤ 140737488355328) (hb : b.size * 4 ≤ 140737488355328) :
    Calls Tryd.prog 93 #[.agg #[.string a, .string b, .int .i64 N]] w fun e w' => e = .returned (.int .i64 (chkS (a, b, N))) ∧ Below w.heap.size w w' := by
  obtain ⟨res, hres⟩ : ∃ r, chkS (a, b, N) = r := ⟨_, rfl⟩
  rw [hres]
  have hO1 : Okw (w.alloc (.cells #[.string a, .string b, .int .i64 N] 121)) := hO.below ((Below.refl _ _).alloc (Nat.le_refl _) _)
  have c1 := decode_runs a (w.alloc (.cells #[.string a, .string b, .int .i64 N] 121)) ha hO1.1 hO1.2
  have c2 := fun (w : World) (h : Okw w) => decode_runs b w hb h.1 h.2
  have HO1 := Lib.hid hO1; clear hO1 hO
  unfold chkS at hres
  simp only at hres
  have hal : Below w.heap.size w (w.alloc (.cells #[.string a, .string b, .int .i64 N] 121)) := (Below.refl _ _).alloc (Nat.le_refl _) _
  have HAL := Lib.hid hal; clear hal
  have key : ∀ (n m : Nat) (ea eb : Int), (decRunes a.data.toList).length = n → (decRunes b.data.toList).length = m → decErr a.data.toList = ea → decErr b.data.toList = eb →
      ((ea != 0) = true ∧ res = 3) ∨ ((ea != 0) = false ∧ (eb != 0) = true ∧ res = 3) ∨ ((ea != 0) = false ∧ (eb != 0) = false ∧ ((3 < n ∧ res = 5) ∨ (¬ 3 < n ∧ 3 < m ∧ res = 5) ∨ (¬ 3 < n ∧ ¬ 3 < m ∧ ((a = b ∧ res = 7) ∨ (a ≠ b ∧ ((N < 1 ∧ res = 2) ∨ (¬ N < 1 ∧ 1073741824 < N ∧ res = 2) ∨ (¬ N < 1 ∧ ¬ 1073741824 < N ∧ res = 0))))))) := by
    intro n m ea eb hn hm hea heb
    unfold decErr at hea heb
    unfold decRunes at hn hm
    cases va : Lib.validD a.data.toList with
    | false =>
      rw [va] at hea hres
      left
      exact ⟨by rw [← hea]; rfl, by rw [← hres]; rfl⟩
    | true =>
      rw [va] at hea hn hres
      have hea0 : ea = 0 := hea.symm
      cases vb : Lib.validD b.data.toList with
      | false =>
        rw [vb] at heb hres
        right; left
        exact ⟨by rw [hea0]; rfl, by rw [← heb]; rfl, by rw [← hres]; rfl⟩
      | true =>
        rw [vb] at heb hm hres
        have heb0 : eb = 0 := heb.symm
        right; right
        refine ⟨by rw [hea0]; rfl, by rw [heb0]; rfl, ?_⟩
        simp only [Bool.and_self, if_true] at hres hn hm
        rw [hn, hm] at hres
        by_cases h1 : 3 < n
        · left; exact ⟨h1, by rw [← hres, if_pos (.inl h1)]⟩
        · right
          by_cases h2 : 3 < m
          · left; exact ⟨h1, h2, by rw [← hres, if_pos (.inr h2)]⟩
          · right
            rw [if_neg (by omega)] at hres
            refine ⟨h1, h2, ?_⟩
            by_cases h3 : a = b
            · left; exact ⟨h3, by rw [← hres, if_pos h3]⟩
            · right
              rw [if_neg h3] at hres
              refine ⟨h3, ?_⟩
              by_cases h4 : N < 1
              · left; exact ⟨h4, by rw [← hres, if_pos (.inl h4)]⟩
              · right
                by_cases h5 : 1073741824 < N
                · left; exact ⟨h4, h5, by rw [← hres, if_pos (.inr h5)]⟩
                · right; exact ⟨h4, h5, by rw [← hres, if_neg (by omega)]⟩
  obtain ⟨n, hn⟩ : ∃ n, (decRunes a.data.toList).length = n := ⟨_, rfl⟩
  obtain ⟨m, hm⟩ : ∃ n, (decRunes b.data.toList).length = n := ⟨_, rfl⟩
  obtain ⟨ea, hea⟩ : ∃ n, decErr a.data.toList = n := ⟨_, rfl⟩
  obtain ⟨eb, heb⟩ : ∃ n, decErr b.data.toList = n := ⟨_, rfl⟩
  have hcs := key n m ea eb hn hm hea heb
  simp only [hn, hea] at c1
  simp only [hm, heb] at c2
  clear key hres hn hm hea heb
  have C1 := Lib.hid c1; have C2 := Lib.hid c2
  clear c1 c2
  have fin : ∀ w1 w2 : World, Below (w.alloc (.cells #[.string a, .string b, .int .i64 N] 121)).heap.size (w.alloc (.cells #[.string a, .string b, .int .i64 N] 121)) w1 → Below w1.heap.size w1 w2 →
      w1.cell? ⟨w.heap.size, 1, none⟩ = some (.string b) ∧ w2.cell? ⟨w.heap.size, 0, none⟩ = some (.string a) ∧ w2.cell? ⟨w.heap.size, 1, none⟩ = some (.string b) ∧ w2.cell? ⟨w.heap.size, 2, none⟩ = some (.int .i64 N) ∧ Below w.heap.size w w2 := fun w1 w2 h1 h2 => by
    have h12 := h1.trans (h2.mono h1.size)
    exact ⟨(h1.cell (p := ⟨w.heap.size, 1, none⟩) (by simp)).trans (by simp), (h12.cell (p := ⟨w.heap.size, 0, none⟩) (by simp)).trans (by simp), (h12.cell (p := ⟨w.heap.size, 1, none⟩) (by simp)).trans (by simp), (h12.cell (p := ⟨w.heap.size, 2, none⟩) (by simp)).trans (by simp), HAL.out.trans (h12.mono HAL.out.size)⟩
  have FIN := Lib.hid fin; clear fin
  rcases hcs with ⟨z1, rfl⟩ | ⟨z1, z2, rfl⟩ | ⟨z1, z2, ⟨h1, rfl⟩ | ⟨h1, h2, rfl⟩ | ⟨h1, h2, ⟨rfl, rfl⟩ | ⟨h3, ⟨h4, rfl⟩ | ⟨h4, h5, rfl⟩ | ⟨h4, h5, rfl⟩⟩⟩⟩
  all_goals
    try have i1 : (3 : Int) < (n : Int) := by omega
    try have i1 : ¬ (3 : Int) < (n : Int) := by omega
    try have i2 : (3 : Int) < (m : Int) := by omega
    try have i2 : ¬ (3 : Int) < (m : Int) := by omega
    try have s1 : (a.toList == b.toList) = false := beq_eq_false_iff_ne.2 (fun e => h3 (by cases a; cases b; congr 1; exact Array.toList_inj.1 (by simpa [Lib.toList_data] using e)))
    go_enter Tryd.func93, Tryd.ntmps93
    go_wp2_with fail
    refine C1.out.mono ?_
    rintro e w1 ⟨A1, c1, rfl, r1, b1⟩
    obtain ⟨p1, _, _, _, _⟩ := FIN.out w1 w1 b1 (Below.refl _ _)
    have B1 := Lib.hid b1; clear b1 r1
    go_wp2_with fail
    refine (C2.out _ (HO1.out.below B1.out)).mono ?_
    rintro e w2 ⟨A2, c2, rfl, r2, b2⟩
    obtain ⟨_, q0, q1, q2, bb⟩ := FIN.out w1 w2 B1.out b2
    have BB := Lib.hid bb
    clear b2 r2 bb p1
    go_wp2
    go_ret
    exact ⟨rfl, BB.out⟩

set_option maxRecDepth 100000 in
set_option maxHeartbeats 4000000 in
theorem less_any (a b c d : ByteArray) (N M : Int) (w : World) :
    Calls Tryd.prog 68 #[.agg #[.string a, .string b, .int .i64 N], .agg #[.string c, .string d, .int .i64 M]] w fun e w' => e = .returned (.bool (lessB (a, b, N) (c, d, M))) ∧ Below w.heap.size w w' := by
  obtain ⟨res, hres⟩ : ∃ r, lessB (a, b, N) (c, d, M) = r := ⟨_, rfl⟩
  rw [hres]
  unfold lessB at hres
  simp only at hres
  have HR := Lib.hid hres; clear hres
  have hal : Hid (Below w.heap.size w ((w.alloc (.cells #[.string a, .string b, .int .i64 N] 121)).alloc (.cells #[.string c, .string d, .int .i64 M] 121))) := Lib.hid (((Below.refl _ _).alloc (Nat.le_refl _) _).alloc (by simp) _)
  by_cases h2 : a.toList = c.toList
  · have h1 : ¬ Op.bytesLess a.toList c.toList = true := by
      rw [h2, Go.Proofs.bytesLess_eq]
      simp [List.lt_irrefl]
    have hr : Hid (res = Op.bytesLess b.toList d.toList) := Lib.hid (by rw [← HR.out, if_neg h1, if_pos h2])
    obtain rfl := toList_ext h2
    clear h1 h2
    go_enter Tryd.func68, Tryd.ntmps68
    go_wp2
    go_ret
    exact ⟨ret_bool (by rw [hr.out]), hal.out⟩
  · have hr : Hid (res = Op.bytesLess a.toList c.toList) := Lib.hid (by
      rw [← HR.out, if_neg h2]
      cases Op.bytesLess a.toList c.toList <;> rfl)
    have h2' : (a.toList == c.toList) = false := beq_eq_false_iff_ne.2 h2
    go_enter Tryd.func68, Tryd.ntmps68
    go_wp2
    go_ret
    exact ⟨ret_bool (by rw [hr.out]), hal.out⟩
end Go.Proofs.YtbbkkoeipkigdaaDoor

/- The rows of steps that aren't matches, as errataref05.rows gathers them: rows of the call's own in a row of its own. -/
namespace Go.Proofs.YtbbkkoeipkigdaaDoor
open Go.RowKit Go.Shelf

/-- The value reads as rows of steps. -/
def RRuns (w : World) (ov : Value) (rs : List (List St)) : Prop :=
  ∃ A c, ov = .slice A rs.length c ∧ (c ≤ maxLen) ∧ (0 < rs.length → ∃ b, A = some ⟨b, 0, none⟩ ∧ ∀ (k : Nat) r, rs[k]? = some r → ∃ v, w.cell? ⟨b, k, none⟩ = some v ∧ StRuns w v r)
theorem RRuns.below {w w' : World} {ov : Value} {rs : List (List St)} (h : RRuns w ov rs) (hb : Below w.heap.size w w') : RRuns w' ov rs := by
  obtain ⟨A, c, e, hm, hx⟩ := h
  refine ⟨A, c, e, hm, fun h0 => ?_⟩
  obtain ⟨b, eA, hc⟩ := hx h0
  refine ⟨b, eA, fun k r hk => ?_⟩
  obtain ⟨v, h1, h2⟩ := hc k r hk
  exact ⟨v, (hb.cell (cell_lt h1)).trans h1, h2.below hb⟩
end Go.Proofs.YtbbkkoeipkigdaaDoor

/- errataref05.rows, walked. -/
namespace Go.Proofs.YtbbkkoeipkigdaaDoor
open Go.RowKit Go.Shelf

theorem inRun_take (l : List St) (i : Nat) (hi : i + 1 ≤ l.length) : inRun (l.take (i + 1)) = ne0 (l.getD i (0, 0, 0)) := by
  have hlt : i < l.length := hi
  rw [List.take_succ_eq_append_getElem hlt, inRun_snoc, List.getD_eq_getElem?_getD, List.getElem?_eq_getElem hlt]
  rfl
theorem rowsP_take (l : List St) (i : Nat) (hi : i < l.length) : rowsP (l.take (i + 1)) = if (l.getD i (0, 0, 0)).1 = 0 then rowsP (l.take i) else if inRun (l.take i) = true then (rowsP (l.take i)).dropLast ++ [(rowsP (l.take i)).getLastD [] ++ [l.getD i (0, 0, 0)]] else rowsP (l.take i) ++ [[l.getD i (0, 0, 0)]] := by
  rw [List.take_succ_eq_append_getElem hi, rowsP_snoc, List.getD_eq_getElem?_getD, List.getElem?_eq_getElem hi]
  rfl
theorem rowsP_last (l : List St) (h : inRun l = true) : ∃ qs r, rowsP l = qs ++ [r] := by
  rcases List.eq_nil_or_concat (rowsP l) with h0 | ⟨qs, r, e⟩
  · exfalso
    rcases List.eq_nil_or_concat l with rfl | ⟨t, s, rfl⟩
    · simp [inRun] at h
    · rw [List.concat_eq_append] at h h0
      rw [inRun_snoc] at h
      exact rowsP_ne _ s (by simp) (ne0_true.1 h) h0
  · exact ⟨qs, r, by rw [e, List.concat_eq_append]⟩
theorem row_len (l r : List St) (h : r ∈ rowsP l) : r.length ≤ l.length := by
  obtain ⟨_, _, X, Y, e⟩ := rowsP_each l r h
  rw [e]; simp; omega

end Go.Proofs.YtbbkkoeipkigdaaDoor

/- errataref05.Of, Long, Pair: the blocks of steps, how many are too long, the blocks of two tokens. -/
namespace Go.Proofs.YtbbkkoeipkigdaaDoor
open Go.RowKit Go.Shelf

def selB (r : List St) : Bool := !longB r && diffB r
def selL (rs : List (List St)) : List Blk := (rs.filter selB).map blkOf
theorem selL_take (rs : List (List St)) (k : Nat) (r : List St) (hk : rs[k]? = some r) : selL (rs.take (k + 1)) = selL (rs.take k) ++ if selB r then [blkOf r] else [] := by
  unfold selL
  rw [List.take_add_one, hk, List.filter_append, List.map_append]
  congr 1
  simp only [Option.toList_some, List.filter_cons, List.filter_nil]
  split <;> simp
theorem longL_take (rs : List (List St)) (k : Nat) (r : List St) (hk : rs[k]? = some r) : ((rs.take (k + 1)).filter longB).length = ((rs.take k).filter longB).length + if longB r then 1 else 0 := by
  rw [List.take_add_one, hk, List.filter_append, List.length_append]
  congr 1
  simp only [Option.toList_some, List.filter_cons, List.filter_nil]
  split <;> simp
theorem info_blk : (Tryd.prog.info? 121).map (fun i => (i.zero, i.size, i.bytes)) = some (some (.agg #[.string ⟨#[]⟩, .string ⟨#[]⟩, .int .i64 0]), 3, 40) := by kernel_rfl
theorem blk_one (x : Blk) : ∀ u ∈ blkCell x, u.oneCell' = true := by
  intro u hu; simp [blkCell] at hu; rcases hu with rfl | rfl | rfl <;> rfl
/-- What a good row's two sides are, as values and by how many runes. -/
theorem row_sides {r : List St} (h : r.all stGood = true) (hl : r.length ≤ 1000000) : ∃ (A B : ByteArray) (p q : Nat), (⟨(readA r).toArray⟩ : ByteArray) = A ∧ (⟨(readB r).toArray⟩ : ByteArray) = B ∧ (decRunes A.data.toList).length = p ∧ (decRunes B.data.toList).length = q ∧ A.size * 4 ≤ 140737488355328 ∧ B.size * 4 ≤ 140737488355328 ∧
    longB r = decide (3 < p ∨ 3 < q) ∧ (diffB r = true ↔ A ≠ B) ∧ blkOf r = (A, B, 1) := by
  obtain ⟨ea, eb, ia, ib, va, vb⟩ := row_texts h
  have rs := read_size r
  have hA : (decRunes (mkB (readA r)).data.toList).length = (stA r).length := by rw [mkB_data, decRunes, va]; simp [ia]
  have hB : (decRunes (mkB (readB r)).data.toList).length = (stB r).length := by rw [mkB_data, decRunes, vb]; simp [ib]
  refine ⟨mkB (readA r), mkB (readB r), (stA r).length, (stB r).length, rfl, rfl, hA, hB, by rw [Lib.size_eq, mkB_data]; omega, by rw [Lib.size_eq, mkB_data]; omega, rfl, ?_, rfl⟩
  rw [diffB, decide_eq_true_eq]
  constructor
  · exact fun h1 e => h1 ((row_differ h).1 (by rw [← mkB_data (readA r), e, mkB_data]))
  · exact fun h1 e => h1 (by rw [(row_differ h).2 e])

end Go.Proofs.YtbbkkoeipkigdaaDoor

/- block.Less and count.order: which of two blocks stands ahead, with the world behind the call told to the block; slices.SortFunc over blocks. -/
namespace Go.Proofs.YtbbkkoeipkigdaaDoor
open Go.RowKit Go.Shelf Go.Lib
open Go.Sort (grow alloc_eq_grow grow_grow SWO PermIn SortedIn HoldsK)

set_option maxRecDepth 100000 in
set_option maxHeartbeats 4000000 in
theorem less_lays (a b c d : ByteArray) (N M : Int) (w : World) :
    Calls Tryd.prog 68 #[.agg #[.string a, .string b, .int .i64 N], .agg #[.string c, .string d, .int .i64 M]] w fun e w' => e = .returned (.bool (lessB (a, b, N) (c, d, M))) ∧ ∃ q os, w' = grow (w.drewN q) os := by
  obtain ⟨res, hres⟩ : ∃ r, lessB (a, b, N) (c, d, M) = r := ⟨_, rfl⟩
  rw [hres]
  unfold lessB at hres
  simp only at hres
  have HR := Lib.hid hres; clear hres
  have hal : Hid (∃ q os, ((w.alloc (.cells #[.string a, .string b, .int .i64 N] 121)).alloc (.cells #[.string c, .string d, .int .i64 M] 121)) = grow (w.drewN q) os) := Lib.hid ⟨0, _, by rw [alloc_eq_grow, alloc_eq_grow, grow_grow]; rfl⟩
  by_cases h2 : a.toList = c.toList
  · have h1 : ¬ Op.bytesLess a.toList c.toList = true := by
      rw [h2, Go.Proofs.bytesLess_eq]
      simp [List.lt_irrefl]
    have hr : Hid (res = Op.bytesLess b.toList d.toList) := Lib.hid (by rw [← HR.out, if_neg h1, if_pos h2])
    obtain rfl := toList_ext h2
    clear h1 h2
    go_enter Tryd.func68, Tryd.ntmps68
    go_wp2
    go_ret
    exact ⟨ret_bool (by rw [hr.out]), hal.out⟩
  · have hr : Hid (res = Op.bytesLess a.toList c.toList) := Lib.hid (by
      rw [← HR.out, if_neg h2]
      cases Op.bytesLess a.toList c.toList <;> rfl)
    have h2' : (a.toList == c.toList) = false := beq_eq_false_iff_ne.2 h2
    go_enter Tryd.func68, Tryd.ntmps68
    go_wp2
    go_ret
    exact ⟨ret_bool (by rw [hr.out]), hal.out⟩

/-- What count.order says of two blocks. -/
def cmpB (x y : Blk) : Int := if lessB x y = true then -1 else if lessB y x = true then 1 else 0
theorem ltOf_cmpB (x y : Blk) : ltOf cmpB x y = lessB x y := by
  unfold ltOf cmpB
  cases h : lessB x y
  · cases h2 : lessB y x <;> simp
  · simp
theorem swo_cmpB : SWO (ltOf cmpB) where
  irrefl x := by rw [ltOf_cmpB]; exact less_irrefl x
  trans x y z h1 h2 := by rw [ltOf_cmpB] at *; exact less_on x y z h1 h2
  ntrans x y z h1 h2 := by
    rw [ltOf_cmpB] at *
    cases h3 : lessB x z with
    | false => rfl
    | true =>
      exfalso
      rcases less_one x y with ⟨h, _, _⟩ | ⟨_, h, _⟩ | ⟨_, _, h⟩
      · rw [h1] at h; cases h
      · have := less_on y x z h h3
        rw [h2] at this; cases this
      · rw [less_key h ⟨rfl, rfl⟩, h2] at h3; cases h3

theorem cells3_new (w : World) (a b c : Value) (t : TypeId) : (w.alloc (.cells #[a, b, c] t)).cell? ⟨w.heap.size, 0, none⟩ = some a ∧ (w.alloc (.cells #[a, b, c] t)).cell? ⟨w.heap.size, 1, none⟩ = some b ∧ (w.alloc (.cells #[a, b, c] t)).cell? ⟨w.heap.size, 2, none⟩ = some c := by
  have h := heap_alloc_new w (.cells #[a, b, c] t)
  refine ⟨?_, ?_, ?_⟩ <;> (rw [cell_of_row _ _ _ _ _ _ h]; rfl)
theorem below_grows (w : World) (q : Nat) (os : Array Obj) : Below w.heap.size w (grow (w.drewN q) os) :=
  ⟨rfl, rfl, rfl, by simp [grow, World.drewN], fun k hk => by
    show (w.heap ++ os)[k]? = _
    rw [Array.getElem?_append_left hk]⟩
theorem grow_more (w : World) (q q2 : Nat) (os o2 : Array Obj) : ∃ q' os', grow ((grow (w.drewN q) os).drewN q2) o2 = grow (w.drewN q') os' := ⟨q + q2, os ++ o2, by simp [grow, World.drewN, Nat.add_assoc, Array.append_assoc]⟩
theorem cell_kept {w w' : World} {p : Addr} {v : Value} (h : Below w.heap.size w w') (hc : w.cell? p = some v) : w'.cell? p = some v := (h.cell (World.block_lt_of_cell? w _ hc)).trans hc
theorem grow_cell {w : World} {p : Addr} {v : Value} (q : Nat) (os : Array Obj) (h : w.cell? p = some v) : (grow (w.drewN q) os).cell? p = some v := cell_kept (below_grows w q os) h

instance : Inhabited Blk := ⟨(ByteArray.empty, ByteArray.empty, 0)⟩
end Go.Proofs.YtbbkkoeipkigdaaDoor

/- Rules, plain: sorted by their sides, then by their cost, and each side kept once: the rules made normal; where a rule stands. -/
namespace Go.Proofs.YtbbkkoeipkigdaaDoor
open Go.RowKit Go.Shelf Go.Lib
open Go.Sort (SWO)

/-- What rule.cheaper says of two rules. -/
def cmpR (x y : Blk) : Int := if cmpB x y = 0 then compareInt x.2.2 y.2.2 else cmpB x y
def ltR (x y : Blk) : Bool := lessB x y || (!lessB y x && decide (x.2.2 < y.2.2))
theorem ltOf_cmpR (x y : Blk) : ltOf cmpR x y = ltR x y := by
  unfold ltOf cmpR cmpB ltR compareInt
  cases h : lessB x y
  · cases h2 : lessB y x
    · by_cases h3 : x.2.2 < y.2.2
      · simp [h3]
      · by_cases h4 : y.2.2 < x.2.2
        · simp [h3, h4]
        · simp [h3, h4]
    · simp
  · simp
theorem ltR_iff (x y : Blk) : ltR x y = true ↔ lessB x y = true ∨ (sameS x y ∧ x.2.2 < y.2.2) := by
  unfold ltR
  rcases less_one x y with ⟨h1, h2, h3⟩ | ⟨h1, h2, h3⟩ | ⟨h1, h2, h3⟩
  · simp [h1]
  · simp [h1, h2, h3]
  · simp [h1, h2, h3]
theorem ltR_no (x y : Blk) : ltR x y = false ↔ lessB x y = false ∧ (sameS x y → y.2.2 ≤ x.2.2) := by
  rw [← Bool.not_eq_true, ltR_iff]
  constructor
  · intro h
    refine ⟨Bool.not_eq_true _ ▸ (fun e => h (.inl e)), fun e => Int.not_lt.1 (fun h2 => h (.inr ⟨e, h2⟩))⟩
  · rintro ⟨h1, h2⟩ (h | ⟨h, h3⟩)
    · rw [h1] at h; cases h
    · have := h2 h; omega
theorem swo_cmpR : SWO (ltOf cmpR) where
  irrefl x := by rw [ltOf_cmpR, ltR_no]; exact ⟨less_irrefl x, fun _ => Int.le_refl _⟩
  trans x y z h1 h2 := by
    rw [ltOf_cmpR, ltR_iff] at *
    rcases h1 with h1 | ⟨h1, c1⟩
    · rcases h2 with h2 | ⟨h2, c2⟩
      · exact .inl (less_on x y z h1 h2)
      · exact .inl (by rw [← less_key (a := x) (b := y) ⟨rfl, rfl⟩ h2]; exact h1)
    · rcases h2 with h2 | ⟨h2, c2⟩
      · exact .inl (by rw [less_key h1 ⟨rfl, rfl⟩]; exact h2)
      · exact .inr ⟨⟨h1.1.trans h2.1, h1.2.trans h2.2⟩, by omega⟩
  ntrans x y z h1 h2 := by
    rw [ltOf_cmpR, ltR_no] at *
    obtain ⟨a1, c1⟩ := h1
    obtain ⟨a2, c2⟩ := h2
    have a3 : lessB x z = false := by
      have := swo_cmpB.ntrans x y z (by rw [ltOf_cmpB]; exact a1) (by rw [ltOf_cmpB]; exact a2)
      rwa [ltOf_cmpB] at this
    refine ⟨a3, fun e => ?_⟩
    rcases less_one x y with ⟨h, _, _⟩ | ⟨_, h, _⟩ | ⟨_, _, h⟩
    · rw [a1] at h; cases h
    · rw [← less_key (a := y) (b := z) (c := y) (d := x) ⟨rfl, rfl⟩ (sameS_symm e), a2] at h; cases h
    · have k1 := c1 h
      have k2 := c2 ⟨h.1.symm.trans e.1, h.2.symm.trans e.2⟩
      omega

/-- Each side kept once: what has the sides of the one ahead of it is left out. -/
def cptF (p : Blk) : List Blk → List Blk
  | [] => []
  | x :: t => if sameS x p then cptF x t else x :: cptF x t
def cpt : List Blk → List Blk
  | [] => []
  | x :: t => x :: cptF x t
theorem cptF_snoc (l : List Blk) (p y x : Blk) : cptF p (l ++ [y] ++ [x]) = cptF p (l ++ [y]) ++ if sameS x y then [] else [x] := by
  induction l generalizing p with
  | nil =>
    show cptF p [y, x] = cptF p [y] ++ _
    simp only [cptF]
    split <;> split <;> rfl
  | cons a l ih =>
    show cptF p (a :: (l ++ [y] ++ [x])) = cptF p (a :: (l ++ [y])) ++ _
    rw [cptF, cptF]
    split
    · exact ih a
    · rw [ih a]; rfl
theorem cpt_snoc (l : List Blk) (y x : Blk) : cpt (l ++ [y] ++ [x]) = cpt (l ++ [y]) ++ if sameS x y then [] else [x] := by
  cases l with
  | nil =>
    show cpt [y, x] = cpt [y] ++ _
    simp only [cpt, cptF]
    split <;> rfl
  | cons a l =>
    show a :: cptF a (l ++ [y] ++ [x]) = (a :: cptF a (l ++ [y])) ++ _
    rw [cptF_snoc]; rfl
/-- The next one. -/
theorem cpt_take {l : List Blk} (k : Nat) (y x : Blk) (hy : l[k]? = some y) (hx : l[k + 1]? = some x) : cpt (l.take (k + 1 + 1)) = cpt (l.take (k + 1)) ++ if sameS x y then [] else [x] := by
  rw [List.take_add_one (i := k + 1), hx, List.take_add_one (i := k), hy]
  exact cpt_snoc _ _ _
theorem cptF_mem (p : Blk) (l : List Blk) : ∀ z ∈ cptF p l, z ∈ l := by
  induction l generalizing p with
  | nil => intro z hz; exact hz
  | cons a l ih =>
    intro z hz
    rw [cptF] at hz
    split at hz
    · exact List.mem_cons_of_mem _ (ih a z hz)
    · rcases List.mem_cons.1 hz with rfl | hz
      · exact List.mem_cons_self
      · exact List.mem_cons_of_mem _ (ih a z hz)
theorem cpt_mem (l : List Blk) : ∀ z ∈ cpt l, z ∈ l := by
  cases l with
  | nil => intro z hz; exact hz
  | cons a l =>
    intro z hz
    rcases List.mem_cons.1 hz with rfl | hz
    · exact List.mem_cons_self
    · exact List.mem_cons_of_mem _ (cptF_mem a l z hz)
theorem cptF_len (p : Blk) (l : List Blk) : (cptF p l).length ≤ l.length := by
  induction l generalizing p with
  | nil => exact Nat.le_refl _
  | cons a l ih =>
    rw [cptF]
    split
    · have := ih a; simp only [List.length_cons]; omega
    · have := ih a; simp only [List.length_cons]; omega
theorem cpt_len (l : List Blk) : (cpt l).length ≤ l.length := by
  cases l with
  | nil => exact Nat.le_refl _
  | cons a l => have := cptF_len a l; simp only [cpt, List.length_cons]; omega
def SrtR (l : List Blk) : Prop := l.Pairwise (fun x y => ltR y x = false)
theorem cptF_ahead (x : Blk) (l : List Blk) (h : SrtR (x :: l)) : (∀ z ∈ cptF x l, lessB x z = true) ∧ Srt (cptF x l) ∧ ∀ k, lst (x :: cptF x l) k = lst (x :: l) k := by
  induction l generalizing x with
  | nil => exact ⟨fun z hz => by simp [cptF] at hz, trivial, fun k => rfl⟩
  | cons y l ih =>
    have h' : SrtR (y :: l) := (List.pairwise_cons.1 h).2
    obtain ⟨q1, q2, q3⟩ := ih y h'
    have hxy := (ltR_no y x).1 ((List.pairwise_cons.1 h).1 y (by simp))
    rw [cptF]
    by_cases e : sameS y x
    · rw [if_pos e]
      refine ⟨fun z hz => by rw [← less_key e (⟨rfl, rfl⟩ : sameS z z)]; exact q1 z hz, q2, fun k => ?_⟩
      have c := hxy.2 e
      have h3 := q3 k
      rw [lst_cons, lst_cons] at h3
      rw [lst_cons, lst_cons, lst_cons]
      by_cases ek : sameS x k
      · have ek' : sameS y k := ⟨e.1.trans ek.1, e.2.trans ek.2⟩
        rw [if_pos ek'] at h3 ⊢
        rw [if_pos ek'] at h3
        rw [if_pos ek, if_pos ek]
        omega
      · have ek' : ¬ sameS y k := fun h => ek ⟨e.1.symm.trans h.1, e.2.symm.trans h.2⟩
        rw [if_neg ek', if_neg ek'] at h3
        rw [if_neg ek, if_neg ek, if_neg ek']
        exact h3
    · rw [if_neg e]
      have hl : lessB x y = true := by
        rcases less_one x y with ⟨h, _, _⟩ | ⟨_, h, _⟩ | ⟨_, _, h⟩
        · exact h
        · rw [hxy.1] at h; cases h
        · exact absurd (sameS_symm h) e
      refine ⟨fun z hz => ?_, ⟨q1, q2⟩, fun k => ?_⟩
      · rcases List.mem_cons.1 hz with rfl | hz
        · exact hl
        · exact less_on x y z hl (q1 z hz)
      · rw [lst_cons, q3 k]; rfl
theorem cpt_facts (l : List Blk) (h : SrtR l) : Srt (cpt l) ∧ ∀ k, lst (cpt l) k = lst l k := by
  cases l with
  | nil => exact ⟨trivial, fun _ => rfl⟩
  | cons x l =>
    obtain ⟨q1, q2, q3⟩ := cptF_ahead x l h
    exact ⟨⟨q1, q2⟩, q3⟩
theorem lst_perm {l m : List Blk} (h : l.Perm m) (k : Blk) : lst l k = lst m k := by
  induction h with
  | nil => rfl
  | cons x _ ih => rw [lst_cons, lst_cons, ih]
  | swap x y l =>
    rw [lst_cons, lst_cons, lst_cons, lst_cons]
    split <;> split <;> omega
  | trans _ _ ih1 ih2 => rw [ih1, ih2]
/-- Sorted, each side once: the rules made normal. -/
theorem cpt_nrm {l d : List Blk} (hl : costB l) (hp : d.Perm l) (hs : SrtR d) : cpt d = nrm l := by
  obtain ⟨q1, q2⟩ := cpt_facts d hs
  exact nrm_uniq hl q1 (fun z hz => hl z (hp.subset (cpt_mem d z hz))) (fun k => by rw [q2 k, lst_perm hp])

theorem rchk_map_zero {l : List Blk} (h : ∀ x ∈ l.map rchk, x = 0) : rall l = 0 := rall_zero.2 (fun b hb => h _ (List.mem_map.2 ⟨b, hb, rfl⟩))
/-- The first that may not be. -/
theorem rall_first {l : List Blk} {z : List Int} {e : Int} (hz : ∀ x ∈ z, x = 0) (he : e ≠ 0) (h : z ++ [e] <+: l.map rchk) : rall l = e := by
  induction l generalizing z with
  | nil =>
    obtain ⟨t, ht⟩ := h
    simp at ht
  | cons a l ih =>
    obtain ⟨t, ht⟩ := h
    cases z with
    | nil =>
      have h1 : e = rchk a := by
        have := congrArg List.head? ht
        simpa using this
      rw [rall, if_neg (by rw [← h1]; exact he), h1]
    | cons y z =>
      have h1 : y = rchk a := by
        have := congrArg List.head? ht
        simpa using this
      have h2 : z ++ [e] ++ t = l.map rchk := by
        have := congrArg List.tail ht
        simpa using this
      rw [rall, if_pos (by rw [← h1]; exact hz y (by simp))]
      exact ih (fun x hx => hz x (by simp [hx])) ⟨t, h2⟩
theorem lst_of_srt {l : List Blk} (hs : Srt l) (hc : costB l) : ∀ r ∈ l, lst l r = r.2.2 := by
  induction l with
  | nil => simp
  | cons a l ih =>
    intro r hr
    rw [lst_cons]
    rcases List.mem_cons.1 hr with rfl | hr
    · have := (hc r (by simp)).2
      rw [if_pos ⟨rfl, rfl⟩, srt_cons_lst hs]; omega
    · rw [if_neg (less_not (hs.1 r hr)).2]
      exact ih hs.2 (fun z hz => hc z (by simp [hz])) r hr
/-- Only at its place a rule of these sides may stand. -/
theorem place_only {l : List Blk} (hs : Srt l) (k : Blk) {m : Nat} (h1 : ∀ j y, j < m → l[j]? = some y → lessB y k = true) (h2 : ∀ j y, m ≤ j → l[j]? = some y → lessB y k = false) : ∀ j y, l[j]? = some y → j ≠ m → ¬ sameS y k := fun j y hy hj e => by
  rcases Nat.lt_or_ge j m with h | h
  · exact (less_not (h1 j y h hy)).2 e
  · have hmj : m < j := by omega
    have hml : m < l.length := by have := (List.getElem?_eq_some_iff.1 hy).1; omega
    obtain ⟨z, hz⟩ : ∃ z, l[m]? = some z := ⟨_, List.getElem?_eq_getElem hml⟩
    have hpw : ∀ (l : List Blk), Srt l → ∀ (i j : Nat) (x y : Blk), i < j → l[i]? = some x → l[j]? = some y → lessB x y = true := by
      intro l
      induction l with
      | nil => intro _ i j x y _ h; simp at h
      | cons a l ih =>
        intro hs i j x y hij hx hy
        cases i with
        | zero =>
          obtain rfl : a = x := by simpa using hx
          cases j with
          | zero => omega
          | succ j => exact hs.1 y (List.mem_of_getElem? (by simpa using hy))
        | succ i =>
          cases j with
          | zero => omega
          | succ j => exact ih hs.2 i j x y (by omega) (by simpa using hx) (by simpa using hy)
    have h3 := hpw l hs m j z y hmj hz hy
    have h4 := h2 m z (Nat.le_refl _) hz
    rw [less_key (c := z) (d := y) ⟨rfl, rfl⟩ (sameS_symm e), h3] at h4
    cases h4
theorem rfind_at {l : List Blk} (hs : Srt l) (hc : costB l) (k : Blk) {m : Nat} (h1 : ∀ j y, j < m → l[j]? = some y → lessB y k = true) (h2 : ∀ j y, m ≤ j → l[j]? = some y → lessB y k = false) : (l[m]? = none → lst l k = 256) ∧ (∀ y, l[m]? = some y → (sameS y k → lst l k = y.2.2 ∧ y.2.2 ≠ 256) ∧ (¬ sameS y k → lst l k = 256)) := by
  have hne := place_only hs k h1 h2
  refine ⟨fun h => ?_, fun y hy => ⟨fun e => ?_, fun e => ?_⟩⟩
  · refine lst_none (fun b hb => ?_)
    obtain ⟨j, hj⟩ := List.getElem?_of_mem hb
    exact hne j b hj (fun e => by rw [e, h] at hj; cases hj)
  · have e1 : lst l k = lst l y := by
      have : ∀ l : List Blk, lst l k = lst l y := by
        intro l
        induction l with
        | nil => rfl
        | cons a l ih =>
          rw [lst_cons, lst_cons, ih]
          by_cases h : sameS a k
          · rw [if_pos h, if_pos ⟨h.1.trans e.1.symm, h.2.trans e.2.symm⟩]
          · rw [if_neg h, if_neg (fun h' => h ⟨h'.1.trans e.1, h'.2.trans e.2⟩)]
      exact this l
    have hm := List.mem_of_getElem? hy
    have := (hc y hm).2
    exact ⟨by rw [e1]; exact lst_of_srt hs hc y hm, by omega⟩
  · refine lst_none (fun b hb => ?_)
    obtain ⟨j, hj⟩ := List.getElem?_of_mem hb
    by_cases hjm : j = m
    · subst hjm
      rw [hy] at hj
      obtain rfl := Option.some.inj hj
      exact e
    · exact hne j b hj hjm
end Go.Proofs.YtbbkkoeipkigdaaDoor

/- The ranges of the longest rows of steps that aren't matches, plain. -/
namespace Go.Proofs.YtbbkkoeipkigdaaDoor
open Go.RowKit Go.Shelf

/-- The ranges of rows: f where the row under way began, k where the rest begins. -/
def rng (f k : Nat) : List St → List (Nat × Nat)
  | [] => if f < k then [(f, k)] else []
  | s :: t => if s.1 = 0 then (if f < k then [(f, k)] else []) ++ rng (k + 1) (k + 1) t else rng f (k + 1) t
def cutR (l : List St) (p : Nat × Nat) : List St := (l.drop p.1).take (p.2 - p.1)
theorem cutR_none (l : List St) (f : Nat) : cutR l (f, f) = [] := by simp [cutR]
theorem cutR_len (l : List St) (p : Nat × Nat) (h : p.2 ≤ l.length) : (cutR l p).length = p.2 - p.1 := by simp [cutR]; omega
theorem cutR_drop (l : List St) (f k : Nat) (h : f ≤ k) : l.drop f = cutR l (f, k) ++ l.drop k := by
  have e : l.drop k = (l.drop f).drop (k - f) := by rw [List.drop_drop]; congr 1; omega
  rw [e]; exact (List.take_append_drop _ _).symm
theorem cutR_snoc (l : List St) (f k : Nat) (s : St) (t : List St) (h : f ≤ k) (hd : l.drop k = s :: t) : cutR l (f, k + 1) = cutR l (f, k) ++ [s] := by
  have hs : (l.drop f)[k - f]? = some s := by
    rw [List.getElem?_drop, show f + (k - f) = k by omega]
    have h0 := congrArg (fun z => z[0]?) hd
    simpa [List.getElem?_drop] using h0
  show (l.drop f).take (k + 1 - f) = (l.drop f).take (k - f) ++ [s]
  rw [show k + 1 - f = (k - f) + 1 by omega, List.take_add_one, hs]; rfl
theorem cutR_getD (l : List St) (p : Nat × Nat) (j : Nat) (hj : j < p.2 - p.1) : (cutR l p).getD j (0, 0, 0) = l.getD (p.1 + j) (0, 0, 0) := by
  simp only [cutR, List.getD_eq_getElem?_getD, List.getElem?_take, List.getElem?_drop, if_pos hj]
theorem cutR_mem (l : List St) (p : Nat × Nat) : ∀ s ∈ cutR l p, s ∈ l := fun _ hs => List.mem_of_mem_drop (List.mem_of_mem_take hs)
theorem run_take {r : List St} (h : ∀ s ∈ r, s.1 ≠ 0) : r.takeWhile ne0 = r ∧ r.dropWhile ne0 = [] := by
  induction r with
  | nil => exact ⟨rfl, rfl⟩
  | cons a r ih =>
    have ha := ne0_true.2 (h a (by simp))
    obtain ⟨i1, i2⟩ := ih (fun s hs => h s (by simp [hs]))
    exact ⟨by rw [List.takeWhile_cons, ha, i1]; rfl, by rw [List.dropWhile_cons, ha, i2]; rfl⟩
theorem rowsP_one {r : List St} (h : ∀ s ∈ r, s.1 ≠ 0) (hr : r ≠ []) : rowsP r = [r] := by
  cases r with
  | nil => exact absurd rfl hr
  | cons a r =>
    obtain ⟨i1, i2⟩ := run_take (fun s hs => h s (List.mem_cons_of_mem a hs))
    rw [rowsP_row (h a (by simp)), i1, i2, rowsP_nil]
theorem rng_rows (l : List St) : ∀ (t : List St) (f k : Nat), l.drop k = t → f ≤ k → k ≤ l.length → (∀ s ∈ cutR l (f, k), s.1 ≠ 0) → (rng f k t).map (cutR l) = rowsP (l.drop f) := by
  intro t
  induction t with
  | nil =>
    intro f k hd hf hk hr
    rw [cutR_drop l f k hf, hd, List.append_nil, rng]
    by_cases hfk : f < k
    · rw [if_pos hfk, rowsP_one hr (by intro e; have := cutR_len l (f, k) hk; rw [e] at this; simp at this; omega)]; rfl
    · obtain rfl : f = k := by omega
      rw [if_neg hfk, cutR_none, rowsP_nil]; rfl
  | cons s t ih =>
    intro f k hd hf hk hr
    have hlt : k < l.length := by
      have := congrArg List.length hd
      simp at this; omega
    have hd' : l.drop (k + 1) = t := by rw [← List.drop_drop, hd]; rfl
    rw [rng]
    by_cases hs : s.1 = 0
    · rw [if_pos hs, List.map_append, ih (k + 1) (k + 1) hd' (Nat.le_refl _) hlt (by rw [cutR_none]; simp), hd', cutR_drop l f k hf, hd, rowsP_parts _ _ _ hs]
      congr 1
      by_cases hfk : f < k
      · rw [if_pos hfk, rowsP_one hr (by intro e; have := cutR_len l (f, k) hk; rw [e] at this; simp at this; omega)]; rfl
      · obtain rfl : f = k := by omega
        rw [if_neg hfk, cutR_none, rowsP_nil]; rfl
    · rw [if_neg hs, ih f (k + 1) hd' (by omega) hlt (by
        rw [cutR_snoc l f k s t hf hd]
        intro z hz
        rcases List.mem_append.1 hz with hz | hz
        · exact hr z hz
        · obtain rfl : z = s := by simpa using hz
          exact hs)]
theorem rng_all (l : List St) : (rng 0 0 l).map (cutR l) = rowsP l := by
  have := rng_rows l l 0 0 rfl (Nat.le_refl _) (Nat.zero_le _) (by rw [cutR_none]; simp)
  exact this

/-- A range within so many steps. -/
abbrev RgI (n : Nat) := { p : Nat × Nat // p.1 < p.2 ∧ p.2 ≤ n }
def rgL {n : Nat} (l : List (RgI n)) : List (Nat × Nat) := l.map (·.val)
theorem rgL_snoc {n : Nat} (l : List (RgI n)) (x : RgI n) : rgL (l ++ [x]) = rgL l ++ [x.val] := by simp [rgL]
theorem rgL_len {n : Nat} (l : List (RgI n)) : (rgL l).length = l.length := by simp [rgL]

/-- Check's answer at a good row's block. -/
theorem chk_blk {r : List St} (hg : r.all stGood = true) : chkS (blkOf r) = if longB r then 5 else if diffB r then 0 else 7 := by
  obtain ⟨ea, eb, ia, ib, va, vb⟩ := row_texts hg
  unfold chkS blkOf
  simp only [mkB_data, va, vb, ia, ib, Bool.and_self, if_true]
  by_cases hl : 3 < (stA r).length ∨ 3 < (stB r).length
  · have hL : longB r = true := decide_eq_true hl
    rw [if_pos hl, hL]; rfl
  · have hL : longB r = false := decide_eq_false hl
    rw [if_neg hl, hL]
    by_cases hd : stA r = stB r
    · have hD : diffB r = false := decide_eq_false (fun h => h hd)
      have he : readA r = readB r := (row_differ hg).2 hd
      rw [hD, if_pos (by rw [he])]; rfl
    · have hD : diffB r = true := decide_eq_true hd
      have hne : mkB (readA r) ≠ mkB (readB r) := fun e => hd ((row_differ hg).1 (by rw [← mkB_data (readA r), e, mkB_data]))
      rw [hD, if_neg hne, if_neg (by omega)]; rfl
/-- The blocks among all that Check lets by are those that aren't too long, and differ. -/
theorem of_filter {l : List St} (hg : l.all stGood = true) : ((rowsP l).map blkOf).filter (fun b => decide (chkS b = 0)) = ofS l := by
  rw [ofS, if_pos hg, List.filter_map]
  congr 1
  refine List.filter_congr (fun r hr => ?_)
  show decide (chkS (blkOf r) = 0) = _
  rw [chk_blk (rows_good hg r hr)]
  cases longB r <;> cases diffB r <;> rfl
theorem long_filter {l : List St} (hg : l.all stGood = true) : (((rowsP l).map blkOf).filter (fun b => decide (chkS b = 5))).length = longS l := by
  rw [longS, if_pos hg, List.filter_map, List.length_map]
  congr 1
  refine List.filter_congr (fun r hr => ?_)
  show decide (chkS (blkOf r) = 5) = _
  rw [chk_blk (rows_good hg r hr)]
  cases longB r <;> cases diffB r <;> rfl
end Go.Proofs.YtbbkkoeipkigdaaDoor

/- A loop over an iterator that itself loops over another one and hands its elements on: what such an iterator promises, and the law of the loop over it. -/
namespace Go.Proofs.YtbbkkoeipkigdaaDoor
open Go.RowKit Go.Shelf

/-- What such an iterator does between two rounds: whatever lay below B lies as it lay; of what lies from B on it turns its own two boxes and what holds no cells. -/
def Priv (B : Nat) (W1 W2 : World) : Prop := Below B W1 W2 ∧ ∀ k o, B + 2 ≤ k → W1.heap[k]? = some o → o.isCells = true → W2.heap[k]? = some o
theorem Priv.of_below {B : Nat} {W1 W2 : World} (h : Below W1.heap.size W1 W2) (hB : B ≤ W1.heap.size) : Priv B W1 W2 :=
  ⟨h.mono hB, fun k _ _ hk _ => (h.block k (Array.getElem?_eq_some_iff.1 hk).1).trans hk⟩
theorem Priv.of_grown {B : Nat} {W1 W2 : World} {row : Option Nat} (h : W1.grownBy W2 row) (hr : ∀ r, row = some r → B + 2 ≤ r ∧ ∃ o : Obj, W1.heap[r]? = some o ∧ o.isCells = false) (hB : B ≤ W1.heap.size) : Priv B W1 W2 :=
  ⟨⟨h.os, h.tape, h.output, h.size, fun k hk => h.block k (Nat.lt_of_lt_of_le hk hB) (fun e => by have := (hr k e.symm).1; omega)⟩,
   fun k _ _ hk ho => (h.block k (Array.getElem?_eq_some_iff.1 hk).1 (fun e => by
     obtain ⟨_, o', ho', hc⟩ := hr k e.symm
     rw [hk] at ho'; cases ho'; rw [ho] at hc; cases hc)).trans hk⟩

/-- The two boxes are kept. -/
def KeepsTwo (B : Nat) (W W' : World) : Prop := ∀ k, B ≤ k → k < B + 2 → W'.heap[k]? = W.heap[k]?

/-- The contract of such an iterator, where no round leaves early. -/
def SeqT {α : Type} (n : Nat) (P : Program) (g : Nat) (lb : Array Value) (encs : α → Array Value) (Kp : World → World → Prop) (S : List α → Prop) (N : Nat) (w : World) : Prop :=
  ∀ (l : Nat) (J : List α → World → Prop) (W : World), Below w.heap.size w W → (∀ pre W1 W2, J pre W1 → W.heap.size ≤ W1.heap.size → Priv W.heap.size W1 W2 → J pre W2) →
    (∀ pre x W1, J pre W1 → pre.length < N → W.heap.size + 2 ≤ W1.heap.size → YieldAt Fence.wide (n - 1) P l (encs x) W1 fun e W' =>
      e = .returned (.bool true) ∧ J (pre ++ [x]) W' ∧ Kp W1 W' ∧ KeepsFrom W.heap.size W1 W' ∧ KeepsTwo W.heap.size W1 W') →
    J [] W →
    CallsIn Fence.wide n P g (#[.func (.yield l) #[] #[]] ++ lb) W fun e W' => (∃ v, e = .returned v) ∧ ∃ xs, S xs ∧ J xs W'

theorem yield_deep {m m' l l' : Nat} {P : Program} {args : Array Value} {W : World} {R : Ending → World → Prop} (h : YieldAt Fence.wide m P l args W R) : YieldAt (Fence.wide.inRound l') m' P l args W R := by
  obtain ⟨fn, tmps, assign, body, hy, hR⟩ := h
  exact ⟨fn, tmps, assign, body, hy, hR.1, fun c cs _ => hR.2 c cs (room_wide _)⟩

/-- How the body of a round is left. -/
def privPost {α : Type} (b : Nat) (Kp : World → World → Prop) (I : List α → World → Prop) (xs : List α) (W : World) : Exit → Act → World → Prop
  | .normal, _, W' => KeepsFrom b W W' ∧ KeepsTwo (b + 2) W W' ∧ Kp W W' ∧ I xs W'
  | _, _, _ => False

theorem wp_range_priv {α : Type} {n : Nat} {P : Program} {g : Operand} {ps : Array Tmp} {assign body : Code} {Q : Exit → Act → World → Prop} {a : Act} {w : World}
    (h1 : 1 ≤ n) {gf : Nat} {lb : Array Value} (hg : a.eval g = .func (.func gf) #[] lb) (eg : ∀ args w, (callFunc gf args).run P w = .ok (.enter gf args) w)
    {encs : α → Array Value} {Kp : World → World → Prop} {S : List α → Prop} {N : Nat} {w0 : World} (hseq : SeqT (n - 1) P gf lb encs Kp S N w0)
    (hKt : ∀ {A B C : World}, Kp A B → Kp B C → Kp A C) (hKb : ∀ (W : World) (l : Nat) (o o' : Obj), w.heap.size ≤ l → W.heap[l]? = some o → o.isCells = false → o.isWalk = false → Kp W (W.putObj l o')) (hb0 : Below w0.heap.size w0 w) (hps : ∀ x, (encs x).size = ps.size)
    (I : List α → World → Prop) (hI : OwnFrom w.heap.size I) (hIp : ∀ pre W1 W2, I pre W1 → w.heap.size + 2 ≤ W1.heap.size → Priv (w.heap.size + 2) W1 W2 → I pre W2) (h0 : I [] w) (a₁ : α → Act)
    (hassign : ∀ (l : Nat) (x : α) (W : World) (K : Act → World → Prop), K (a₁ x) W →
      assign.wpIn (Fence.wide.inRound l) (n - 1 - 1) P (Exit.then K (fun _ _ _ => False)) { tmps := (ps.zip (encs x)).foldl (fun t (p, v) => t.setIfInBounds p v) a.tmps, defers := [] } W)
    (hbody : ∀ (l : Nat) (pre : List α) (x : α) (W : World), w.heap.size + 4 ≤ W.heap.size → I pre W → pre.length < N → body.wpIn (Fence.wide.inRound l) (n - 1 - 1) P (privPost w.heap.size Kp I (pre ++ [x]) W) (a₁ x) W)
    (hdone : ∀ (D : Nat) (xs : List α) (W : World), w.heap.size ≤ D → S xs → I xs W → W.heap[D]? = some (.deferred (some [])) → Q .normal { a with defers := { target := .collected D, args := #[] } :: a.defers } W) :
    (Code.rangeFunc g ps assign body).wpIn Fence.wide n P Q a w := by
  refine wpIn_rangeFunc fun fn hfn => ?_
  obtain ⟨b, hb⟩ : ∃ b, w.heap.size = b := ⟨_, rfl⟩
  obtain ⟨rc, hrc⟩ : ∃ rc : LoopState → Loop, rc = fun st => { state := st, pending := none, fn, tmps := a.tmps, params := ps, assign, body, defers := b } := ⟨_, rfl⟩
  obtain ⟨V, hV⟩ : ∃ V, (w.alloc (.deferred (some []))).alloc (.loop (rc .ready)) = V := ⟨_, rfl⟩
  have hVs : V.heap.size = b + 2 := by rw [← hV]; simp [hb]
  have hL : V.heap[b + 1]? = some (.loop (rc .ready)) := by
    rw [← hV]; have := World.alloc_heap_new (w.alloc (.deferred (some []))) (.loop (rc .ready)); rwa [World.size_alloc, hb] at this
  have hD : V.heap[b]? = some (.deferred (some [])) := by
    rw [← hV, ← hb]; exact (Below.heap_alloc _ _ _ (by simp)).trans (World.alloc_heap_new w _)
  have hI0 : I [] V := by rw [← hV]; exact hI.alloc _ (hI.alloc _ h0)
  have hbV : Below w0.heap.size w0 V := by
    rw [← hV]; exact hb0.trans ((((Below.refl _ w).alloc (Nat.le_refl _) _).alloc (by simp) _).mono hb0.size)
  rw [hb] at hKb hI hIp hbody hdone
  refine ⟨b + 1, [{ target := .collected b, args := #[] }], V, { target := .fn (.func gf) lb, args := #[.func (.yield (b + 1)) #[] #[]] }, V, gf, #[.func (.yield (b + 1)) #[] #[]] ++ lb, V, ?_, ?_, ?_, ?_, fun _ => h1, ?_⟩
  · rw [← hV, hrc, ← hb]; exact run_enterLoop_outer _ _ _ _ _
  · simp only [resolve, hg]; simp [go_sem]
  · intro f' _; trivial
  · simp [invoke, go_sem, eg]
  refine (hseq (b + 1) (fun pre W => I pre W ∧ W.heap[b + 1]? = some (.loop (rc .ready)) ∧ W.heap[b]? = some (.deferred (some []))) V hbV
    (fun pre A B hJ hs hp => by
      rw [hVs] at hp hs
      exact ⟨hIp pre A B hJ.1 hs hp, (hp.1.block _ (by omega)).trans hJ.2.1, (hp.1.block _ (by omega)).trans hJ.2.2⟩) ?_ ⟨hI0, hL, hD⟩).mono ?_
  · rintro pre x W ⟨hi, hl, hk⟩ hlen hsz
    rw [hVs] at hsz ⊢
    have hlt : b + 1 < W.heap.size := by omega
    have hy := run_yield (P := P) (args := encs x) hl (by rw [hrc]; exact hps x)
    rw [hrc] at hy
    obtain ⟨W2, hW2⟩ : ∃ W2, W.putObj (b + 1) (.loop { rc .ready with state := .busy }) = W2 := ⟨_, rfl⟩
    have hl2 : W2.heap[b + 1]? = some (.loop { rc .ready with state := .busy }) := by rw [← hW2]; exact World.putObj_heap_same hlt
    have ho2 : ∀ k, k ≠ b + 1 → W2.heap[k]? = W.heap[k]? := fun k hne => by rw [← hW2]; exact World.putObj_heap_other hne
    have hs2 : W2.heap.size = W.heap.size := by rw [← hW2]; simp
    have hkp2 : Kp W W2 := by rw [← hW2]; exact hKb _ _ _ _ (by omega) hl rfl rfl
    have hi2 : I pre W2 := by rw [← hW2]; exact hI.putObj _ hi (by omega) hl rfl
    refine ⟨fn, _, assign, body, hy, roundIn_of_wpIn hfn (hassign _ x W _ ⟨W2, by rw [← hW2]; exact run_beginRound hl (by rw [hrc]), ?_⟩)⟩
    refine wpIn_mono (hbody _ pre x W2 (by omega) hi2 hlen) ?_
    rintro e a3 W3 hp
    cases e with
    | normal =>
      obtain ⟨hk3, ht3, hkp3, hi3⟩ := hp
      have hl3 := hk3.same _ _ (by omega) hl2 rfl
      have he := run_endRound (P := P) none hl3
      refine ⟨_, _, he, rfl, ⟨hI.putObj _ hi3 (by omega) hl3 rfl, ?_, ?_⟩, hKt (hKt hkp2 hkp3) (hKb _ _ _ _ (by omega) hl3 rfl rfl), ?_, ?_⟩
      · rw [World.putObj_heap_same (Array.getElem?_eq_some_iff.1 hl3).1, hrc]; rfl
      · exact (World.putObj_heap_other (by omega)).trans (hk3.same _ _ (Nat.le_refl _) ((ho2 b (by omega)).trans hk) rfl)
      · refine ⟨by simp; have := hk3.size; omega, fun k _ hB hk0 ho => ?_⟩
        exact (World.putObj_heap_other (by omega)).trans (hk3.same _ _ (by omega) ((ho2 k (by omega)).trans hk0) ho)
      · intro k hB1 hB2
        exact (World.putObj_heap_other (by omega)).trans ((ht3 k hB1 hB2).trans (ho2 k (by omega)))
    | ret => exact hp.elim
    | exit id => exact hp.elim
    | goto t => exact hp.elim
    | panic ch => exact hp.elim
    | outgrown => exact hp.elim
  · rintro e W2 ⟨⟨v, rfl⟩, xs, hS, hi, hl, hk⟩
    have he := run_endLoop (P := P) hl (by rw [hrc]; simp)
    refine ⟨none, _, by rw [hrc] at he; exact he, hdone _ xs _ (Nat.le_refl _) hS (hI.putObj _ hi (by omega) hl rfl) ((World.putObj_heap_other (by omega)).trans hk)⟩
end Go.Proofs.YtbbkkoeipkigdaaDoor

/- The longest rows of steps that aren't matches, as block.rows hands them on: the iterator's contract. -/
namespace Go.Proofs.YtbbkkoeipkigdaaDoor
open Go.RowKit Go.Shelf
attribute [local go_sem] Oper.semAt_some

/-- A row as a value: a part of the steps' own slice. -/
def rowV (b o c : Nat) (p : Nat × Nat) : Value := .slice (some ⟨b, o + p.1 * 3, none⟩) (p.2 - p.1) (c - p.1)
/-- A part of steps reads as a part of the list. -/
theorem StRuns.cut {w : World} {b o c n : Nat} {l : List St} (h : StRuns w (.slice (some ⟨b, o, none⟩) n c) l) (hn : l.length = n) (p : Nat × Nat) (h1 : p.1 < p.2) (h2 : p.2 ≤ n) : StRuns w (rowV b o c p) (cutR l p) := by
  obtain ⟨A, c', e, hc, ⟨hm, _⟩, hx⟩ := h
  obtain ⟨rfl, _, rfl⟩ := Value.slice.inj e
  obtain ⟨b', o', e2, hlt, hcell⟩ := hx (by omega)
  have e3 := Option.some.inj e2
  simp only [Addr.mk.injEq] at e3
  obtain ⟨rfl, rfl, _⟩ := e3
  have hl := cutR_len l p (by omega)
  refine ⟨some ⟨b, o + p.1 * 3, none⟩, c - p.1, by rw [hl, rowV], by omega, ⟨by omega, fun h => by cases h⟩, fun _ => ⟨b, o + p.1 * 3, rfl, hlt, fun j hj => ?_⟩⟩
  rw [hl] at hj
  have := hcell (p.1 + j) (by omega)
  rw [cutR_getD l p j hj]
  rwa [show o + p.1 * 3 + j * 3 = o + (p.1 + j) * 3 by omega]
theorem rng_nil_end (f : Nat) : rng f f [] = [] := by rw [rng, if_neg (by omega)]

end Go.Proofs.YtbbkkoeipkigdaaDoor

/- All blocks of steps that may be, as block.blocks hands them on: the iterator's contract. -/
namespace Go.Proofs.YtbbkkoeipkigdaaDoor
open Go.RowKit Go.Shelf
attribute [local go_sem] Oper.semAt_some

theorem kf_below {B : Nat} {W W' : World} (h : Below W.heap.size W W') : KeepsFrom B W W' := ⟨h.size, fun k _ _ hk _ => (h.block k (Array.getElem?_eq_some_iff.1 hk).1).trans hk⟩
theorem kf_up {B C : Nat} {W W' : World} (h : KeepsFrom B W W') (hB : B ≤ C) : KeepsFrom C W W' := ⟨h.size, fun k o hk h0 ho => h.same k o (Nat.le_trans hB hk) h0 ho⟩

/-- A block of texts that aren't too great. -/
abbrev BkI := { b : Blk // b.1.size ≤ 8000000 ∧ b.2.1.size ≤ 8000000 }
def bkL (l : List BkI) : List Blk := l.map (·.val)
theorem bkL_snoc (l : List BkI) (x : BkI) : bkL (l ++ [x]) = bkL l ++ [x.val] := by simp [bkL]
theorem cut_small (L : List St) (N : Nat) (hN : L.length = N) (hL : N ≤ 1000000) (p : RgI N) : (blkOf (cutR L p.val)).1.size ≤ 8000000 ∧ (blkOf (cutR L p.val)).2.1.size ≤ 8000000 := by
  have h1 := cutR_len L p.val (by rw [hN]; exact p.property.2)
  have h2 := p.property.2
  obtain ⟨h3, h4⟩ := read_size (cutR L p.val)
  refine ⟨?_, ?_⟩
  · show (mkB (readA (cutR L p.val))).size ≤ _
    rw [Lib.size_eq, mkB_data]; omega
  · show (mkB (readB (cutR L p.val))).size ≤ _
    rw [Lib.size_eq, mkB_data]; omega
def mkI (L : List St) (N : Nat) (hN : L.length = N) (hL : N ≤ 1000000) (p : RgI N) : BkI := ⟨blkOf (cutR L p.val), cut_small L N hN hL p⟩
theorem mkI_all (L : List St) (N : Nat) (hN : L.length = N) (hL : N ≤ 1000000) (ys : List (RgI N)) (h : rgL ys = rng 0 0 L) : bkL (ys.map (mkI L N hN hL)) = (rowsP L).map blkOf := by
  rw [← rng_all, ← h, bkL, rgL, List.map_map, List.map_map, List.map_map]
  rfl

end Go.Proofs.YtbbkkoeipkigdaaDoor

/- A loop over an iterator that itself loops over another one, where each round boxes its element: the law of the loop. -/
namespace Go.Proofs.YtbbkkoeipkigdaaDoor
open Go.RowKit Go.Shelf

theorem wp_range_box {α : Type} {n : Nat} {P : Program} {g : Operand} {ps : Array Tmp} {assign body : Code} {Q : Exit → Act → World → Prop} {a : Act} {w : World}
    (h1 : 1 ≤ n) {gf : Nat} {lb : Array Value} (hg : a.eval g = .func (.func gf) #[] lb) (eg : ∀ args w, (callFunc gf args).run P w = .ok (.enter gf args) w)
    {encs : α → Array Value} {Kp : World → World → Prop} {S : List α → Prop} {N : Nat} {w0 : World} (hseq : SeqT (n - 1) P gf lb encs Kp S N w0)
    (hKt : ∀ {A B C : World}, Kp A B → Kp B C → Kp A C) (hKb : ∀ (W : World) (l : Nat) (o o' : Obj), w.heap.size ≤ l → W.heap[l]? = some o → o.isCells = false → o.isWalk = false → Kp W (W.putObj l o')) (hKa : ∀ (W : World) (o : Obj), w.heap.size ≤ W.heap.size → Kp W (W.alloc o)) (hb0 : Below w0.heap.size w0 w) (hps : ∀ x, (encs x).size = ps.size)
    (I : List α → World → Prop) (hI : OwnFrom w.heap.size I) (hIp : ∀ pre W1 W2, I pre W1 → w.heap.size + 2 ≤ W1.heap.size → Priv (w.heap.size + 2) W1 W2 → I pre W2) (h0 : I [] w) (a₁ : α → Nat → Act) (mk : α → Obj)
    (hassign : ∀ (l : Nat) (x : α) (W : World) (K : Act → World → Prop), K (a₁ x W.heap.size) (W.alloc (mk x)) →
      assign.wpIn (Fence.wide.inRound l) (n - 1 - 1) P (Exit.then K (fun _ _ _ => False)) { tmps := (ps.zip (encs x)).foldl (fun t (p, v) => t.setIfInBounds p v) a.tmps, defers := [] } W)
    (hbody : ∀ (l : Nat) (pre : List α) (x : α) (W : World) (k : Nat), w.heap.size + 4 ≤ k → I pre W → W.heap[k]? = some (mk x) → pre.length < N → body.wpIn (Fence.wide.inRound l) (n - 1 - 1) P (privPost w.heap.size Kp I (pre ++ [x]) W) (a₁ x k) W)
    (hdone : ∀ (D : Nat) (xs : List α) (W : World), w.heap.size ≤ D → S xs → I xs W → W.heap[D]? = some (.deferred (some [])) → Q .normal { a with defers := { target := .collected D, args := #[] } :: a.defers } W) :
    (Code.rangeFunc g ps assign body).wpIn Fence.wide n P Q a w := by
  refine wpIn_rangeFunc fun fn hfn => ?_
  obtain ⟨b, hb⟩ : ∃ b, w.heap.size = b := ⟨_, rfl⟩
  obtain ⟨rc, hrc⟩ : ∃ rc : LoopState → Loop, rc = fun st => { state := st, pending := none, fn, tmps := a.tmps, params := ps, assign, body, defers := b } := ⟨_, rfl⟩
  obtain ⟨V, hV⟩ : ∃ V, (w.alloc (.deferred (some []))).alloc (.loop (rc .ready)) = V := ⟨_, rfl⟩
  have hVs : V.heap.size = b + 2 := by rw [← hV]; simp [hb]
  have hL : V.heap[b + 1]? = some (.loop (rc .ready)) := by
    rw [← hV]; have := World.alloc_heap_new (w.alloc (.deferred (some []))) (.loop (rc .ready)); rwa [World.size_alloc, hb] at this
  have hD : V.heap[b]? = some (.deferred (some [])) := by
    rw [← hV, ← hb]; exact (Below.heap_alloc _ _ _ (by simp)).trans (World.alloc_heap_new w _)
  have hI0 : I [] V := by rw [← hV]; exact hI.alloc _ (hI.alloc _ h0)
  have hbV : Below w0.heap.size w0 V := by
    rw [← hV]; exact hb0.trans ((((Below.refl _ w).alloc (Nat.le_refl _) _).alloc (by simp) _).mono hb0.size)
  rw [hb] at hKb hKa hI hIp hbody hdone
  refine ⟨b + 1, [{ target := .collected b, args := #[] }], V, { target := .fn (.func gf) lb, args := #[.func (.yield (b + 1)) #[] #[]] }, V, gf, #[.func (.yield (b + 1)) #[] #[]] ++ lb, V, ?_, ?_, ?_, ?_, fun _ => h1, ?_⟩
  · rw [← hV, hrc, ← hb]; exact run_enterLoop_outer _ _ _ _ _
  · simp only [resolve, hg]; simp [go_sem]
  · intro f' _; trivial
  · simp [invoke, go_sem, eg]
  refine (hseq (b + 1) (fun pre W => I pre W ∧ W.heap[b + 1]? = some (.loop (rc .ready)) ∧ W.heap[b]? = some (.deferred (some []))) V hbV
    (fun pre A B hJ hs hp => by
      rw [hVs] at hp hs
      exact ⟨hIp pre A B hJ.1 hs hp, (hp.1.block _ (by omega)).trans hJ.2.1, (hp.1.block _ (by omega)).trans hJ.2.2⟩) ?_ ⟨hI0, hL, hD⟩).mono ?_
  · rintro pre x W ⟨hi, hl, hk⟩ hlen hsz
    rw [hVs] at hsz ⊢
    have hy := run_yield (P := P) (args := encs x) hl (by rw [hrc]; exact hps x)
    rw [hrc] at hy
    obtain ⟨Wa, hWa⟩ : ∃ Wa, W.alloc (mk x) = Wa := ⟨_, rfl⟩
    have hsa : Wa.heap.size = W.heap.size + 1 := by rw [← hWa]; simp
    have hna : Wa.heap[W.heap.size]? = some (mk x) := by rw [← hWa]; exact World.alloc_heap_new W _
    have hoa : ∀ k, k < W.heap.size → Wa.heap[k]? = W.heap[k]? := fun k hk => by rw [← hWa]; exact Below.heap_alloc _ _ _ hk
    have hla : Wa.heap[b + 1]? = some (.loop (rc .ready)) := (hoa _ (by omega)).trans hl
    have hia : I pre Wa := by rw [← hWa]; exact hI.alloc _ hi
    have hkpa : Kp W Wa := by rw [← hWa]; exact hKa _ _ (by omega)
    have hlt : b + 1 < Wa.heap.size := by omega
    obtain ⟨W2, hW2⟩ : ∃ W2, Wa.putObj (b + 1) (.loop { rc .ready with state := .busy }) = W2 := ⟨_, rfl⟩
    have hl2 : W2.heap[b + 1]? = some (.loop { rc .ready with state := .busy }) := by rw [← hW2]; exact World.putObj_heap_same hlt
    have ho2 : ∀ k, k ≠ b + 1 → W2.heap[k]? = Wa.heap[k]? := fun k hne => by rw [← hW2]; exact World.putObj_heap_other hne
    have hs2 : W2.heap.size = Wa.heap.size := by rw [← hW2]; simp
    have hkp2 : Kp W W2 := hKt hkpa (by rw [← hW2]; exact hKb _ _ _ _ (by omega) hla rfl rfl)
    have hi2 : I pre W2 := by rw [← hW2]; exact hI.putObj _ hia (by omega) hla rfl
    have has := hassign (b + 1) x W
    rw [hWa] at has
    refine ⟨fn, _, assign, body, hy, roundIn_of_wpIn hfn (has _ ⟨W2, by rw [← hW2]; exact run_beginRound hla (by rw [hrc]), ?_⟩)⟩
    refine wpIn_mono (hbody _ pre x W2 W.heap.size (by omega) hi2 ((ho2 _ (by omega)).trans hna) hlen) ?_
    rintro e a3 W3 hp
    cases e with
    | normal =>
      obtain ⟨hk3, ht3, hkp3, hi3⟩ := hp
      have hl3 := hk3.same _ _ (by omega) hl2 rfl
      have he := run_endRound (P := P) none hl3
      refine ⟨_, _, he, rfl, ⟨hI.putObj _ hi3 (by omega) hl3 rfl, ?_, ?_⟩, hKt (hKt hkp2 hkp3) (hKb _ _ _ _ (by omega) hl3 rfl rfl), ?_, ?_⟩
      · rw [World.putObj_heap_same (Array.getElem?_eq_some_iff.1 hl3).1, hrc]; rfl
      · exact (World.putObj_heap_other (by omega)).trans (hk3.same _ _ (Nat.le_refl _) ((ho2 b (by omega)).trans ((hoa b (by omega)).trans hk)) rfl)
      · refine ⟨by simp; have := hk3.size; omega, fun k _ hB hk0 ho => ?_⟩
        have hklt := (Array.getElem?_eq_some_iff.1 hk0).1
        exact (World.putObj_heap_other (by omega)).trans (hk3.same _ _ (by omega) ((ho2 k (by omega)).trans ((hoa k hklt).trans hk0)) ho)
      · intro k hB1 hB2
        exact (World.putObj_heap_other (by omega)).trans ((ht3 k hB1 hB2).trans ((ho2 k (by omega)).trans (hoa k (by omega))))
    | ret => exact hp.elim
    | exit id => exact hp.elim
    | goto t => exact hp.elim
    | panic ch => exact hp.elim
    | outgrown => exact hp.elim
  · rintro e W2 ⟨⟨v, rfl⟩, xs, hS, hi, hl, hk⟩
    have he := run_endLoop (P := P) hl (by rw [hrc]; simp)
    refine ⟨none, _, by rw [hrc] at he; exact he, hdone _ xs _ (Nat.le_refl _) hS (hI.putObj _ hi (by omega) hl rfl) ((World.putObj_heap_other (by omega)).trans hk)⟩
end Go.Proofs.YtbbkkoeipkigdaaDoor

/- block.Of: the blocks of steps that aren't too long and differ, or why a step may not be. -/
namespace Go.Proofs.YtbbkkoeipkigdaaDoor
open Go.RowKit Go.Shelf
attribute [local go_sem] Oper.semAt_some blkV

theorem info_bk : (Tryd.prog.info? 121).map (fun i => (i.zero, i.size, i.bytes)) = some (some (.agg #[.string ⟨#[]⟩, .string ⟨#[]⟩, .int .i64 0]), 3, 40) := by kernel_rfl
theorem blk_len (x : Blk) : (blkCell x).length = 3 := rfl
theorem bk_one (x : Blk) : ∀ u ∈ blkCell x, u.oneCell' = true := by
  intro u hu
  simp only [blkCell, List.mem_cons, List.not_mem_nil, or_false] at hu
  rcases hu with rfl | rfl | rfl <;> rfl
/-- An append whose run is known, within a fence. -/
theorem wpListIn_append_runH {F : Fence} {n : Nat} {P : Program} {w : World} {ops : Array Oper} {rest : List Oper} {o : Oper} {a : Act} {Q : Exit → Act → World → Prop} (s x : Operand) (t : TypeId) (v u v' : Value) (w' : World)
    (hg : o.guard = none) (hop : o.op = Op.call { callee := Callee.builtin Builtin.append, args := #[s, x], argTypes := #[t, t] })
    (hrun : (Builtin.append_ #[t, t] o.type #[v, u]).run P w = .ok v' w') (hs : a.eval s = v) (hx : a.eval x = u)
    (h : wpListIn F n P ops Q rest (a.put o.dst v') w') : wpListIn F n P ops Q (o :: rest) a w := by
  refine wpListIn_plain hg fun K hK => ?_
  unfold Oper.wpIn
  refine ⟨?_, ?_⟩
  · simp [Oper.about, hop, resolve, Target.leads, Sem.run_pure]
  · rw [Oper.semAt_plain F _ _ (by rw [hop]; intro c hc'; cases hc')]
    simp [execOp, hop, resolve, invoke, builtin, hs, hx, hrun, Result.andThen]
    exact hK _ _ h
/-- The blocks that may be among all. -/
def okB (l : List Blk) : List Blk := l.filter (fun b => decide (chkS b = 0))
theorem okB_yes (l : List Blk) (x : Blk) (h : chkS x = 0) : okB (l ++ [x]) = okB l ++ [x] := by simp [okB, h]
theorem okB_no (l : List Blk) (x : Blk) (h : chkS x ≠ 0) : okB (l ++ [x]) = okB l := by simp [okB, h]
theorem okB_len (l : List Blk) : (okB l).length ≤ l.length := List.length_filter_le _ _

def OfPost (l : List St) (w : World) (e : Ending) (w' : World) : Prop :=
  ∃ v, e = .returned (.tuple #[v, .int .i64 (stErr l)]) ∧ w'.ownsRow w.heap.size 121 3 v (ofS l).length (gCells blkCell (ofS l)) ∧ Below w.heap.size w w'

end Go.Proofs.YtbbkkoeipkigdaaDoor

/- block.Long: how many blocks of steps are too long, or why a step may not be. -/
namespace Go.Proofs.YtbbkkoeipkigdaaDoor
open Go.RowKit Go.Shelf
attribute [local go_sem] Oper.semAt_some blkV

/-- How many are too long. -/
def lgB (l : List Blk) : Nat := (l.filter (fun b => decide (chkS b = 5))).length
theorem lgB_yes (l : List Blk) (x : Blk) (h : chkS x = 5) : lgB (l ++ [x]) = lgB l + 1 := by simp [lgB, h]
theorem lgB_no (l : List Blk) (x : Blk) (h : chkS x ≠ 5) : lgB (l ++ [x]) = lgB l := by simp [lgB, h]
theorem lgB_len (l : List Blk) : lgB l ≤ l.length := List.length_filter_le _ _
end Go.Proofs.YtbbkkoeipkigdaaDoor

/- errataref05.Long, Of, Pair, at any steps. -/
namespace Go.Proofs.YtbbkkoeipkigdaaDoor
open Go.RowKit Go.Shelf

end Go.Proofs.YtbbkkoeipkigdaaDoor

/- BlockSteps, BlockPairs, BlockChecks, walked over what block's functions answer. -/
namespace Go.Proofs.YtbbkkoeipkigdaaDoor
open Go.RowKit Go.Shelf

def ChkAt (b : Blk) : Prop := ∀ w, Okw w → Calls Tryd.prog 93 #[.agg #[.string b.1, .string b.2.1, .int .i64 b.2.2]] w fun e w' => e = .returned (.int .i64 (chkS b)) ∧ Below w.heap.size w w'
def LessAt (a b : Blk) : Prop := ∀ w, Okw w → Calls Tryd.prog 68 #[.agg #[.string a.1, .string a.2.1, .int .i64 a.2.2], .agg #[.string b.1, .string b.2.1, .int .i64 b.2.2]] w fun e w' => e = .returned (.bool (lessB a b)) ∧ Below w.heap.size w w'

end Go.Proofs.YtbbkkoeipkigdaaDoor

