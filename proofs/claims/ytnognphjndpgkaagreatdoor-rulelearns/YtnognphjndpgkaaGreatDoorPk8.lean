/- Texts that several proofs of this seat share, one behind the other: BLawP BRef GenRow BLess BOrderP CPlain CLawP. -/
import Derived.Test.YtnognphjndpgkaaGreatDoorPk1
import Derived.Test.YtnognphjndpgkaaGreatDoorPk7
import Derived.Test.YtnognphjndpgkaaGreatDoorPk3
import Derived.OwnWalk
import Derived.Maps.AppendAt
import Derived.Test.YtnognphjndpgkaaGreatDoorPk5
import Derived.Sort.Walk0
/- Blocks of steps, plain: what they are, that each may be, how many there are. -/
namespace Go.Proofs.YtnognphjndpgkaaGreatDoor
open Go.RowKit Go.Shelf

/-- A block: what was read, what it should have been, how often. -/
abbrev Blk := ByteArray × ByteArray × Int
def mkB (l : List UInt8) : ByteArray := ⟨l.toArray⟩
theorem mkB_data (l : List UInt8) : (mkB l).data.toList = l := by simp [mkB]
def blkOf (r : List St) : Blk := (mkB (readA r), mkB (readB r), 1)
def longB (r : List St) : Bool := decide (3 < (stA r).length ∨ 3 < (stB r).length)
def diffB (r : List St) : Bool := decide (stA r ≠ stB r)
/-- The blocks of steps, and how many are too long. -/
def ofS (l : List St) : List Blk := if l.all stGood then ((rowsP l).filter (fun r => !longB r && diffB r)).map blkOf else []
def longS (l : List St) : Nat := if l.all stGood then ((rowsP l).filter longB).length else 0
/-- Whether a block may be. -/
def chkS (b : Blk) : Int :=
  if Lib.validD b.1.data.toList && Lib.validD b.2.1.data.toList then
    if 3 < (items b.1.data.toList).length ∨ 3 < (items b.2.1.data.toList).length then 5 else if b.1 = b.2.1 then 7 else if b.2.2 < 1 ∨ 1073741824 < b.2.2 then 2 else 0
  else 3

theorem rows_good {l : List St} (h : l.all stGood = true) : ∀ r ∈ rowsP l, r.all stGood = true := by
  intro r hr
  obtain ⟨_, _, X, Y, e⟩ := rowsP_each l r hr
  rw [e, List.all_append, List.all_append, Bool.and_eq_true, Bool.and_eq_true] at h
  exact h.1.2
/-- A good row's two texts. -/
theorem row_texts {r : List St} (h : r.all stGood = true) : readA r = encL (stA r) ∧ readB r = encL (stB r) ∧ items (readA r) = stA r ∧ items (readB r) = stB r ∧ Lib.validD (readA r) = true ∧ Lib.validD (readB r) = true := by
  have hok := good_ok r h
  have hf : r.all stForm = true := List.all_eq_true.2 (fun q hq => form_ok q (hok q hq))
  have hg := good_all r hf
  rw [h] at hg
  have hg' : allRunes (stA r) = true ∧ allRunes (stB r) = true := by simpa using hg.symm
  have ea : readA r = encL (stA r) := by rw [readA, if_pos h, encS, if_pos hg'.1]
  have eb : readB r = encL (stB r) := by rw [readB, if_pos h, encS, if_pos hg'.2]
  have ia := items_of_enc (stA r) (List.all_eq_true.1 hg'.1)
  have ib := items_of_enc (stB r) (List.all_eq_true.1 hg'.2)
  exact ⟨ea, eb, by rw [ea]; exact ia.1, by rw [eb]; exact ib.1, by rw [ea]; exact ia.2, by rw [eb]; exact ib.2⟩
theorem row_differ {r : List St} (h : r.all stGood = true) : (readA r = readB r) ↔ (stA r = stB r) := by
  obtain ⟨ea, eb, ia, ib, _, _⟩ := row_texts h
  constructor
  · intro e
    rw [← ia, ← ib, e]
  · intro e
    rw [ea, eb, e]
/-- Each block may be, once. -/
theorem ofS_may {l : List St} : ∀ b ∈ ofS l, chkS b = 0 ∧ b.2.2 = 1 ∧ ∃ r ∈ rowsP l, b = blkOf r ∧ (items b.1.data.toList).length = (stA r).length ∧ (items b.2.1.data.toList).length = (stB r).length ∧ Lib.validD b.1.data.toList = true ∧ Lib.validD b.2.1.data.toList = true := by
  intro b hb
  unfold ofS at hb
  split at hb
  · rename_i hg
    obtain ⟨r, hr, rfl⟩ := List.mem_map.1 hb
    obtain ⟨hr1, hr2⟩ := List.mem_filter.1 hr
    rw [Bool.and_eq_true] at hr2
    have hg' := rows_good hg r hr1
    obtain ⟨ea, eb, ia, ib, va, vb⟩ := row_texts hg'
    have hd : stA r ≠ stB r := of_decide_eq_true hr2.2
    have hl : ¬ (3 < (stA r).length ∨ 3 < (stB r).length) := by
      have := hr2.1
      unfold longB at this
      simpa using this
    refine ⟨?_, rfl, r, hr1, rfl, ?_, ?_, ?_, ?_⟩
    · unfold chkS blkOf
      simp only [mkB_data, va, vb, ia, ib, Bool.and_self, if_true]
      rw [if_neg hl]
      have hne : mkB (readA r) ≠ mkB (readB r) := fun e => hd ((row_differ hg').1 (by rw [← mkB_data (readA r), e, mkB_data]))
      rw [if_neg hne, if_neg (by omega)]
    · show (items (mkB (readA r)).data.toList).length = _
      rw [mkB_data, ia]
    · show (items (mkB (readB r)).data.toList).length = _
      rw [mkB_data, ib]
    · show Lib.validD (mkB (readA r)).data.toList = true
      rw [mkB_data]; exact va
    · show Lib.validD (mkB (readB r)).data.toList = true
      rw [mkB_data]; exact vb
  · simp at hb

theorem sum_filter_le {α : Type} (f : α → Nat) (p : α → Bool) (l : List α) : ((l.filter p).map f).sum ≤ (l.map f).sum := by
  induction l with
  | nil => simp
  | cons a l ih =>
    rw [List.filter_cons]
    split
    · simp only [List.map_cons, List.sum_cons]; omega
    · simp only [List.map_cons, List.sum_cons]; omega
theorem sum_map_le {α : Type} (f g : α → Nat) (l : List α) (h : ∀ a ∈ l, f a ≤ g a) : (l.map f).sum ≤ (l.map g).sum := by
  induction l with
  | nil => simp
  | cons a l ih =>
    have h1 := h a (by simp)
    have h2 := ih (fun b hb => h b (by simp [hb]))
    simp only [List.map_cons, List.sum_cons]; omega
theorem len_two_filters {α : Type} (p q : α → Bool) (l : List α) (h : ∀ a, p a = true → q a = true → False) : (l.filter p).length + (l.filter q).length ≤ l.length := by
  induction l with
  | nil => simp
  | cons a l ih =>
    rw [List.filter_cons, List.filter_cons]
    cases hp : p a <;> cases hq : q a
    · simp; omega
    · simp; omega
    · simp; omega
    · exact absurd hq (fun hq => h a hp hq)
/-- The runes of all blocks: no more than aren't matches. -/
theorem ofS_runes (l : List St) : ((ofS l).map (fun b => max (items b.1.data.toList).length (items b.2.1.data.toList).length)).sum ≤ stC l := by
  unfold ofS
  split
  · rename_i hg
    rw [List.map_map, ← rowsP_sum l]
    refine Nat.le_trans (sum_map_le _ List.length _ (fun r hr => ?_)) (sum_filter_le _ _ _)
    obtain ⟨hr1, _⟩ := List.mem_filter.1 hr
    obtain ⟨_, _, ia, ib, _, _⟩ := row_texts (rows_good hg r hr1)
    show max (items (mkB (readA r)).data.toList).length (items (mkB (readB r)).data.toList).length ≤ r.length
    rw [mkB_data, mkB_data, ia, ib]
    have := stA_len r
    have := stB_len r
    omega
  · simp
theorem rows_le_C (l : List St) : (rowsP l).length ≤ stC l := by
  rw [← rowsP_sum l]
  have : ((rowsP l).map (fun _ => 1)).sum ≤ ((rowsP l).map List.length).sum := sum_map_le _ _ _ (fun r hr => by
    have := (rowsP_each l r hr).1
    have := List.length_pos_iff.2 this
    omega)
  have h1 : ∀ z : List (List St), (z.map (fun _ => 1)).sum = z.length := fun z => by
    induction z with
    | nil => rfl
    | cons a z ih => simp only [List.map_cons, List.sum_cons, List.length_cons, ih]; omega
  rwa [h1] at this
theorem ofS_count (l : List St) : (ofS l).length + longS l ≤ stC l := by
  unfold ofS longS
  split
  · rw [List.length_map]
    refine Nat.le_trans (len_two_filters _ _ _ (fun r h1 h2 => ?_)) (rows_le_C l)
    rw [h2] at h1
    simp at h1
  · simp
theorem stC_zero_rows {l : List St} (h : rowsP l = []) : stC l = 0 := by rw [← rowsP_sum, h]; rfl

/-- In an alignment of as few as there may be no row is of two texts that are the same. -/
theorem least_differ (l : List St) (hok : ∀ s ∈ l, stOK s) (hc : stC l ≤ levR (stA l) (stB l)) : ∀ r ∈ rowsP l, stA r ≠ stB r := by
  intro r hr e
  obtain ⟨hne, hrun, X, Y, hl⟩ := rowsP_each l r hr
  have hL : ∀ s ∈ X ++ (stA r).map (fun a => ((0, a, a) : St)) ++ Y, stOK s := by
    intro s hs
    rcases List.mem_append.1 hs with hs | hs
    · rcases List.mem_append.1 hs with hs | hs
      · exact hok s (by rw [hl]; simp [hs])
      · obtain ⟨a, _, rfl⟩ := List.mem_map.1 hs
        exact .inl ⟨rfl, rfl⟩
    · exact hok s (by rw [hl]; simp [hs])
  have hmA : ∀ z : List Int, stA (z.map (fun a => ((0, a, a) : St))) = z := by
    intro z; induction z with
    | nil => rfl
    | cons a z ih => simp [stA] at ih ⊢; exact ih
  have hmB : ∀ z : List Int, stB (z.map (fun a => ((0, a, a) : St))) = z := by
    intro z; induction z with
    | nil => rfl
    | cons a z ih => simp [stB] at ih ⊢; exact ih
  have hmC : ∀ z : List Int, stC (z.map (fun a => ((0, a, a) : St))) = 0 := by
    intro z; induction z with
    | nil => rfl
    | cons a z ih => simp [stC] at ih ⊢; exact ih
  have hge := stC_ge _ hL
  rw [stA_append, stA_append, stB_append, stB_append, hmA, hmB, stC_append, stC_append, hmC] at hge
  rw [hl, stA_append, stA_append, stB_append, stB_append, stC_append, stC_append] at hc
  rw [e] at hge hc
  have hr2 := stC_run r hrun
  have := List.length_pos_iff.2 hne
  omega

theorem levR_rev_le (x y : List Int) : levR x y ≤ levR x.reverse y.reverse := by
  have p := pathR_all x.reverse y.reverse
  have h := stC_ge (pathR x.reverse y.reverse).reverse (fun s hs => p.2.2.2 s (List.mem_reverse.1 hs))
  rwa [stA_rev, stB_rev, stC_rev, p.1, p.2.1, p.2.2.1, List.reverse_reverse, List.reverse_reverse] at h
theorem levR_rev (x y : List Int) : levR x.reverse y.reverse = levR x y := by
  have h1 := levR_rev_le x y
  have h2 := levR_rev_le x.reverse y.reverse
  rw [List.reverse_reverse, List.reverse_reverse] at h2
  omega

/-- All of two tokens' blocks. -/
theorem pair_facts (s t : List UInt8) (h : tokErr2 s t = 0) : (stepsS s t).all stGood = true ∧ ((ofS (stepsS s t)).length = 0 → longS (stepsS s t) = 0 → stC (stepsS s t) = 0) ∧ (s = t → ofS (stepsS s t) = []) := by
  obtain ⟨f1, f2, f3, f4, _, _, _⟩ := steps_facts s t h
  have hg : (stepsS s t).all stGood = true := by
    cases hg : (stepsS s t).all stGood with
    | true => rfl
    | false => rw [stErr, hg] at f3; cases f3
  refine ⟨hg, fun h1 h2 => ?_, fun e => ?_⟩
  · have hL : (ofS (stepsS s t)) = [] := List.eq_nil_of_length_eq_zero h1
    by_cases hr : rowsP (stepsS s t) = []
    · exact stC_zero_rows hr
    · exfalso
      obtain ⟨r, hr⟩ := List.exists_mem_of_ne_nil _ hr
      have p := pathR_all (tokRunes s).reverse (tokRunes t).reverse
      have hs : stepsS s t = (pathR (tokRunes s).reverse (tokRunes t).reverse).reverse := by rw [stepsS, if_pos h]
      have hd := least_differ (stepsS s t) (good_ok _ hg) (by
        have a1 : stA (stepsS s t) = tokRunes s := by rw [hs, stA_rev, p.1, List.reverse_reverse]
        have a2 : stB (stepsS s t) = tokRunes t := by rw [hs, stB_rev, p.2.1, List.reverse_reverse]
        rw [f4, a1, a2, distS, if_pos h]
        exact Nat.le_of_eq (levR_rev _ _)) r hr
      unfold ofS at hL
      rw [if_pos hg, List.map_eq_nil_iff, List.filter_eq_nil_iff] at hL
      unfold longS at h2
      rw [if_pos hg] at h2
      have h3 := List.filter_eq_nil_iff.1 (List.eq_nil_of_length_eq_zero h2) r hr
      have h4 := hL r hr
      have h5 : diffB r = true := decide_eq_true hd
      have h6 : longB r = false := by simpa using h3
      rw [h5, h6] at h4
      exact h4 rfl
  · subst e
    have h0 : stC (stepsS s s) = 0 := by rw [f4, distS, if_pos h, levR_self]
    have := ofS_count (stepsS s s)
    exact List.eq_nil_of_length_eq_zero (by omega)
/-- Two rows of steps, a match between. -/
theorem ofS_parts (l r : List St) (m : St) (hm : m.1 = 0) (hmg : stGood m = true) (hl : l.all stGood = true) (hr : r.all stGood = true) : ofS (l ++ m :: r) = ofS l ++ ofS r := by
  have h : (l ++ m :: r).all stGood = true := by rw [List.all_append, List.all_cons, hl, hmg, hr]; rfl
  rw [ofS, if_pos h, ofS, if_pos hl, ofS, if_pos hr, rowsP_parts l r m hm, List.filter_append, List.map_append]
end Go.Proofs.YtnognphjndpgkaaGreatDoor

/- errataref05.Size, Check, Less: what each answers. -/
namespace Go.Proofs.YtnognphjndpgkaaGreatDoor
open Go.RowKit Go.Shelf

set_option maxRecDepth 100000 in
set_option maxHeartbeats 2000000 in
theorem refSize_any (s : ByteArray) (w : World) (hs : s.size * 4 ≤ 140737488355328) :
    Calls Tryz.prog 60 #[.string s] w fun e w' => e = .returned (.int .i64 ((decRunes s.data.toList).length : Nat)) ∧ Below w.heap.size w w' := by
  have c := refDecode_runs s w hs
  obtain ⟨n, hn⟩ : ∃ n, (decRunes s.data.toList).length = n := ⟨_, rfl⟩
  obtain ⟨er, he⟩ : ∃ n, decErr s.data.toList = n := ⟨_, rfl⟩
  simp only [hn, he] at c
  rw [hn]
  clear hn he
  have C := Lib.hid c; clear c
  go_enter Tryz.func60, Tryz.ntmps60
  go_wp2_with fail
  refine C.out.mono ?_
  rintro e w1 ⟨A, cc, rfl, r1, b1⟩
  have B1 := Lib.hid b1; clear b1 r1
  go_wp2
  go_ret
  exact ⟨rfl, B1.out⟩

/-- A block as a value, and its cells. -/
def blkV (b : Blk) : Value := .agg #[.string b.1, .string b.2.1, .int .i64 b.2.2]
def blkCell (b : Blk) : List Value := [.string b.1, .string b.2.1, .int .i64 b.2.2]

set_option maxRecDepth 100000 in
set_option maxHeartbeats 4000000 in
theorem refCheck5_any (a b : ByteArray) (N : Int) (w : World) (ha : a.size * 4 ≤ 140737488355328) (hb : b.size * 4 ≤ 140737488355328) :
    Calls Tryz.prog 39 #[.agg #[.string a, .string b, .int .i64 N]] w fun e w' => e = .returned (.int .i64 (chkS (a, b, N))) ∧ Below w.heap.size w w' := by
  obtain ⟨res, hres⟩ : ∃ r, chkS (a, b, N) = r := ⟨_, rfl⟩
  rw [hres]
  have c1 := refDecode_runs a (w.alloc (.cells #[.string a, .string b, .int .i64 N] 34)) ha
  have c2 := fun w => refDecode_runs b w hb
  unfold chkS at hres
  simp only at hres
  have hal : Below w.heap.size w (w.alloc (.cells #[.string a, .string b, .int .i64 N] 34)) := (Below.refl _ _).alloc (Nat.le_refl _) _
  have HAL := Lib.hid hal; clear hal
  have key : ∀ (n m : Nat) (ea eb : Int), (decRunes a.data.toList).length = n → (decRunes b.data.toList).length = m → decErr a.data.toList = ea → decErr b.data.toList = eb →
      ((ea != 0) = true ∧ res = 3) ∨ ((ea != 0) = false ∧ (eb != 0) = true ∧ res = 3) ∨ ((ea != 0) = false ∧ (eb != 0) = false ∧ ((3 < n ∧ res = 5) ∨ (¬ 3 < n ∧ 3 < m ∧ res = 5) ∨ (¬ 3 < n ∧ ¬ 3 < m ∧ ((a = b ∧ res = 7) ∨ (a ≠ b ∧ ((N < 1 ∧ res = 2) ∨ (¬ N < 1 ∧ 1073741824 < N ∧ res = 2) ∨ (¬ N < 1 ∧ ¬ 1073741824 < N ∧ res = 0))))))) := by
    intro n m ea eb hn hm hea heb
    unfold decErr at hea heb
    unfold decRunes at hn hm
    cases va : Lib.validD a.data.toList with
    | false =>
      rw [va] at hea hres
      left
      exact ⟨by rw [← hea]; rfl, by rw [← hres]; rfl⟩
    | true =>
      rw [va] at hea hn hres
      have hea0 : ea = 0 := hea.symm
      cases vb : Lib.validD b.data.toList with
      | false =>
        rw [vb] at heb hres
        right; left
        exact ⟨by rw [hea0]; rfl, by rw [← heb]; rfl, by rw [← hres]; rfl⟩
      | true =>
        rw [vb] at heb hm hres
        have heb0 : eb = 0 := heb.symm
        right; right
        refine ⟨by rw [hea0]; rfl, by rw [heb0]; rfl, ?_⟩
        simp only [Bool.and_self, if_true] at hres hn hm
        rw [hn, hm] at hres
        by_cases h1 : 3 < n
        · left; exact ⟨h1, by rw [← hres, if_pos (.inl h1)]⟩
        · right
          by_cases h2 : 3 < m
          · left; exact ⟨h1, h2, by rw [← hres, if_pos (.inr h2)]⟩
          · right
            rw [if_neg (by omega)] at hres
            refine ⟨h1, h2, ?_⟩
            by_cases h3 : a = b
            · left; exact ⟨h3, by rw [← hres, if_pos h3]⟩
            · right
              rw [if_neg h3] at hres
              refine ⟨h3, ?_⟩
              by_cases h4 : N < 1
              · left; exact ⟨h4, by rw [← hres, if_pos (.inl h4)]⟩
              · right
                by_cases h5 : 1073741824 < N
                · left; exact ⟨h4, h5, by rw [← hres, if_pos (.inr h5)]⟩
                · right; exact ⟨h4, h5, by rw [← hres, if_neg (by omega)]⟩
  obtain ⟨n, hn⟩ : ∃ n, (decRunes a.data.toList).length = n := ⟨_, rfl⟩
  obtain ⟨m, hm⟩ : ∃ n, (decRunes b.data.toList).length = n := ⟨_, rfl⟩
  obtain ⟨ea, hea⟩ : ∃ n, decErr a.data.toList = n := ⟨_, rfl⟩
  obtain ⟨eb, heb⟩ : ∃ n, decErr b.data.toList = n := ⟨_, rfl⟩
  have hcs := key n m ea eb hn hm hea heb
  simp only [hn, hea] at c1
  simp only [hm, heb] at c2
  clear key hres hn hm hea heb
  have C1 := Lib.hid c1; have C2 := Lib.hid c2
  clear c1 c2
  have fin : ∀ w1 w2 : World, Below (w.alloc (.cells #[.string a, .string b, .int .i64 N] 34)).heap.size (w.alloc (.cells #[.string a, .string b, .int .i64 N] 34)) w1 → Below w1.heap.size w1 w2 →
      w1.cell? ⟨w.heap.size, 1, none⟩ = some (.string b) ∧ w2.cell? ⟨w.heap.size, 0, none⟩ = some (.string a) ∧ w2.cell? ⟨w.heap.size, 1, none⟩ = some (.string b) ∧ w2.cell? ⟨w.heap.size, 2, none⟩ = some (.int .i64 N) ∧ Below w.heap.size w w2 := fun w1 w2 h1 h2 => by
    have h12 := h1.trans (h2.mono h1.size)
    exact ⟨(h1.cell (p := ⟨w.heap.size, 1, none⟩) (by simp)).trans (by simp), (h12.cell (p := ⟨w.heap.size, 0, none⟩) (by simp)).trans (by simp), (h12.cell (p := ⟨w.heap.size, 1, none⟩) (by simp)).trans (by simp), (h12.cell (p := ⟨w.heap.size, 2, none⟩) (by simp)).trans (by simp), HAL.out.trans (h12.mono HAL.out.size)⟩
  have FIN := Lib.hid fin; clear fin
  rcases hcs with ⟨z1, rfl⟩ | ⟨z1, z2, rfl⟩ | ⟨z1, z2, ⟨h1, rfl⟩ | ⟨h1, h2, rfl⟩ | ⟨h1, h2, ⟨rfl, rfl⟩ | ⟨h3, ⟨h4, rfl⟩ | ⟨h4, h5, rfl⟩ | ⟨h4, h5, rfl⟩⟩⟩⟩
  all_goals
    try have i1 : (3 : Int) < (n : Int) := by omega
    try have i1 : ¬ (3 : Int) < (n : Int) := by omega
    try have i2 : (3 : Int) < (m : Int) := by omega
    try have i2 : ¬ (3 : Int) < (m : Int) := by omega
    try have s1 : (a.toList == b.toList) = false := beq_eq_false_iff_ne.2 (fun e => h3 (by cases a; cases b; congr 1; exact Array.toList_inj.1 (by simpa [Lib.toList_data] using e)))
    go_enter Tryz.func39, Tryz.ntmps39
    go_wp2_with fail
    refine C1.out.mono ?_
    rintro e w1 ⟨A1, c1, rfl, r1, b1⟩
    obtain ⟨p1, _, _, _, _⟩ := FIN.out w1 w1 b1 (Below.refl _ _)
    have B1 := Lib.hid b1; clear b1 r1
    go_wp2_with fail
    refine (C2.out _).mono ?_
    rintro e w2 ⟨A2, c2, rfl, r2, b2⟩
    obtain ⟨_, q0, q1, q2, bb⟩ := FIN.out w1 w2 B1.out b2
    have BB := Lib.hid bb
    clear b2 r2 bb p1
    go_wp2
    go_ret
    exact ⟨rfl, BB.out⟩
end Go.Proofs.YtnognphjndpgkaaGreatDoor

/- Slices of structs, for any of them: a value that reads as a list whose elements have so many cells each; append of one. -/
namespace Go.Proofs.YtnognphjndpgkaaGreatDoor
open Go.RowKit

/-- All cells of a list, one behind the other. -/
def gCells {α : Type} (enc : α → List Value) (l : List α) : List Value := l.flatMap enc
theorem gCells_len {α : Type} {enc : α → List Value} {k : Nat} (hk : ∀ x, (enc x).length = k) (l : List α) : (gCells enc l).length = l.length * k := by
  induction l with
  | nil => simp [gCells]
  | cons x l ih =>
    show (enc x ++ gCells enc l).length = _
    rw [List.length_append, hk, ih, List.length_cons, Nat.succ_mul]; omega
theorem gCells_snoc {α : Type} (enc : α → List Value) (l : List α) (x : α) : gCells enc (l ++ [x]) = gCells enc l ++ enc x := by simp [gCells]
theorem gCells_append {α : Type} (enc : α → List Value) (l r : List α) : gCells enc (l ++ r) = gCells enc l ++ gCells enc r := by simp [gCells]
theorem gCells_at {α : Type} {enc : α → List Value} {k : Nat} (hk : ∀ x, (enc x).length = k) (l : List α) (j i : Nat) (x : α) (hj : l[j]? = some x) (hi : i < k) : (gCells enc l)[j * k + i]? = (enc x)[i]? := by
  induction l generalizing j with
  | nil => simp at hj
  | cons y l ih =>
    show (enc y ++ gCells enc l)[j * k + i]? = _
    cases j with
    | zero =>
      have e : y = x := by simpa using hj
      subst e
      rw [Nat.zero_mul, Nat.zero_add, List.getElem?_append_left (by rw [hk]; exact hi)]
    | succ j =>
      rw [List.getElem?_append_right (by rw [hk, Nat.succ_mul]; omega), hk, show (j + 1) * k + i - k = j * k + i by rw [Nat.succ_mul]; omega]
      exact ih j (by simpa using hj)

/-- The slice value v reads as the list l. -/
def GRuns {α : Type} (enc : α → List Value) (k : Nat) (w : World) (v : Value) (l : List α) : Prop :=
  ∃ A c, v = .slice A l.length c ∧ l.length ≤ c ∧ (c ≤ maxLen ∧ (A = none → c = 0)) ∧
    (0 < l.length → ∃ b o, A = some ⟨b, o, none⟩ ∧ b < w.heap.size ∧ ∀ j x, l[j]? = some x → ∀ i u, (enc x)[i]? = some u → w.cell? ⟨b, o + j * k + i, none⟩ = some u)
theorem GRuns.below {α : Type} {enc : α → List Value} {k : Nat} {w w' : World} {v : Value} {l : List α} (h : GRuns enc k w v l) (hb : Below w.heap.size w w') : GRuns enc k w' v l := by
  obtain ⟨A, c, e, hc, hm, hx⟩ := h
  refine ⟨A, c, e, hc, hm, fun h0 => ?_⟩
  obtain ⟨b, o, eA, hlt, hcell⟩ := hx h0
  exact ⟨b, o, eA, Nat.lt_of_lt_of_le hlt hb.size, fun j x hj i u hu => (hb.cell (p := ⟨b, _, none⟩) hlt).trans (hcell j x hj i u hu)⟩
theorem GRuns.nil_ {α : Type} (enc : α → List Value) (k : Nat) (w : World) : GRuns enc k w (.slice none 0 0) [] := ⟨none, 0, rfl, by simp, by simp [maxLen], fun h => absurd h (by simp)⟩
theorem GRuns.slice {α : Type} {enc : α → List Value} {k : Nat} {w : World} {v : Value} {l : List α} (h : GRuns enc k w v l) : ∃ A c, v = .slice A l.length c := by
  obtain ⟨A, c, e, _⟩ := h
  exact ⟨A, c, e⟩
/-- Element j's cells, where the length is named. -/
theorem GRuns.cells {α : Type} {enc : α → List Value} {k : Nat} {w : World} {A : Option Addr} {n c : Nat} {l : List α} (h : GRuns enc k w (.slice A n c) l) (hn : l.length = n) (h0 : 0 < n) :
    ∃ b o, A = some ⟨b, o, none⟩ ∧ b < w.heap.size ∧ ∀ j x, l[j]? = some x → ∀ i u, (enc x)[i]? = some u → w.cell? ⟨b, o + j * k + i, none⟩ = some u := by
  obtain ⟨A', c', e, _, _, hx⟩ := h
  rw [hn] at e hx
  obtain ⟨rfl, _, rfl⟩ := Value.slice.inj e
  exact hx h0
theorem GRuns.of_own {α : Type} {enc : α → List Value} {k : Nat} (hk : ∀ x, (enc x).length = k) {w : World} {base : Nat} {v : Value} {n : Nat} {l : List α} {e : TypeId} (hn : l.length = n) (h : w.ownsRow base e k v n (gCells enc l)) : GRuns enc k w v l := by
  obtain ⟨hlen, hv⟩ := h
  subst hn
  rcases hv with ⟨rfl, h0⟩ | ⟨g, cap, cur, rfl, _, hg, hle, hcap, hsz, htk⟩
  · exact ⟨none, 0, by rw [h0], by omega, by simp [maxLen], fun hp => absurd hp (by omega)⟩
  · refine ⟨_, cap, rfl, hle, ⟨hcap, fun h => by cases h⟩, fun _ => ⟨g, 0, rfl, (Array.getElem?_eq_some_iff.1 hg).1, fun j x hj i u hu => ?_⟩⟩
    have hi : i < k := by have := (List.getElem?_eq_some_iff.1 hu).1; rwa [hk] at this
    have hjl : j < l.length := (List.getElem?_eq_some_iff.1 hj).1
    rw [cell_of_row w g (0 + j * k + i) cur e (0, 0) hg]
    have h2 := gCells_at hk l j i x hj hi
    have hlt : j * k + i < l.length * k := by
      have := Nat.mul_le_mul_right k (show j + 1 ≤ l.length from hjl)
      rw [Nat.succ_mul] at this
      omega
    rw [← htk, List.getElem?_take, if_pos hlt, hu] at h2
    simpa using h2
/-- append(v, x) to a row of the call's own: the literal lies in a new block. -/
theorem append_one {P : Program} {α : Type} {enc : α → List Value} {k bytes : Nat} {tS tE : TypeId} {z : Value} (hk : ∀ x, (enc x).length = k) (h1 : ∀ x, ∀ u ∈ enc x, u.oneCell' = true) (hinfo : (P.info? tE).map (fun i => (i.zero, i.size, i.bytes)) = some (some z, k, bytes)) (hzl : z.cells.size = k) (hk0 : 0 < bytes) (hk1 : 0 < k)
    (hU : P.underlying tS = some (.slice tE)) (w : World) (base : Nat) (v : Value) (n : Nat) (xs : List Value) (hown : w.ownsRow base tE k v n xs) (x : α) (hbase : base ≤ w.heap.size) (hlen : (n + 1) * bytes ≤ 140737488355328) :
    ∃ v' w', (Builtin.append_ #[tS, tS] tS #[v, .slice (some ⟨w.heap.size, 0, none⟩) 1 1]).run P (w.alloc (.cells (enc x).toArray tE)) = .ok v' w' ∧ w'.ownsRow base tE k v' (n + 1) (xs ++ enc x) ∧
      (w.alloc (.cells (enc x).toArray tE)).grownBy w' v.ownBlock ∧ (v'.ownBlock = v.ownBlock ∨ v'.ownBlock = some (w.heap.size + 1)) := by
  obtain ⟨i0, hi, hz0, hz1, hz2⟩ := info_parts hinfo
  obtain ⟨v', w', hrun, h2, h3, _, h5⟩ := run_append_own_at (P := P) (w.alloc (.cells (enc x).toArray tE)) base tS tS tE i0 z k bytes hU hi hz0 hz1 hz2 hzl hk1 v n xs (hown.alloc _) ⟨w.heap.size, 0, none⟩ 1 1 (enc x) (by rw [hk]; simp)
    (fun j u hj => by
      have e : (⟨w.heap.size, 0, none⟩ : Addr).add j = ⟨w.heap.size, 0 + j, none⟩ := by unfold Addr.add; simp; omega
      rw [e, cell_of_row _ _ _ _ _ _ (heap_alloc_new w _)]
      simpa using hj) (h1 x) (by have : n + 1 ≤ (n + 1) * bytes := Nat.le_mul_of_pos_right _ hk0; unfold maxLen; omega) hlen (by simp; omega)
  exact ⟨v', w', hrun, h2, h3, by simpa using h5⟩

theorem take_set' {α : Type} (l : List α) (m j : Nat) (u : α) (h : j < m) : (l.set j u).take m = (l.take m).set j u := by
  apply List.ext_getElem?
  intro i
  rw [List.getElem?_take, List.getElem?_set, List.getElem?_set, List.getElem?_take, List.length_take]
  by_cases hi : i < m
  · simp only [hi, if_true]
    by_cases hij : j = i
    · subst hij
      have hm : (j < min m l.length) = (j < l.length) := propext (by omega)
      simp [hm]
    · simp [hij]
  · simp only [hi, if_false]
    rw [if_neg (by omega)]
/-- A store into a row of the call's own. -/
theorem own_store {w : World} {base : Nat} {e : TypeId} {size g cap n : Nat} {xs : List Value} (h : w.ownsRow base e size (.slice (some ⟨g, 0, none⟩) n cap) n xs) (j : Nat) (hj : j < n * size) (u : Value) :
    (w.setCell ⟨g, j, none⟩ u).ownsRow base e size (.slice (some ⟨g, 0, none⟩) n cap) n (xs.set j u) := by
  obtain ⟨hl, hv⟩ := h
  rcases hv with ⟨h0, _⟩ | ⟨g', cap', cur, e1, hb, hg, h1, h2, h3, h4⟩
  · cases h0
  · simp only [Value.slice.injEq, Option.some.injEq, Addr.mk.injEq] at e1
    obtain ⟨⟨rfl, _⟩, _, rfl⟩ := e1
    refine ⟨by simpa using hl, .inr ⟨g, cap, cur.setIfInBounds j u, rfl, hb, ?_, h1, h2, by simpa using h3, ?_⟩⟩
    · obtain ⟨hlt, hk⟩ := Array.getElem?_eq_some_iff.1 hg
      show (w.heap.modify g _)[g]? = _
      rw [Array.getElem?_eq_getElem (by rw [Array.size_modify]; exact hlt), Array.getElem_modify_self, hk]
      rfl
    · rw [Array.toList_setIfInBounds, take_set' _ _ _ _ hj, h4]
theorem own_thaw {w : World} {base : Nat} {e : TypeId} {size g cap n : Nat} {xs : List Value} (h : w.ownsRow base e size (.slice (some ⟨g, 0, none⟩) n cap) n xs) (j : Nat) : w.frozen? ⟨g, j, none⟩ = false := by
  rcases h.2 with ⟨h0, _⟩ | ⟨g', cap', cur, e1, hb, hg, h1, h2, h3, h4⟩
  · cases h0
  · simp only [Value.slice.injEq, Option.some.injEq, Addr.mk.injEq] at e1
    obtain ⟨⟨rfl, _⟩, _, rfl⟩ := e1
    simp [World.frozen?, hg]
/-- Rows of two kinds are two blocks. -/
theorem own_apart {w : World} {base base' : Nat} {e e' : TypeId} {size size' n n' : Nat} {v v' : Value} {xs xs' : List Value} (h : w.ownsRow base e size v n xs) (h' : w.ownsRow base' e' size' v' n' xs') (hne : e ≠ e') : v.ownBlock = none ∨ v.ownBlock ≠ v'.ownBlock := by
  rcases h.2 with ⟨rfl, _⟩ | ⟨g, cap, cur, rfl, hb, hg, h1, h2, h3, h4⟩
  · exact .inl rfl
  · rcases h'.2 with ⟨rfl, _⟩ | ⟨g', cap', cur', rfl, hb', hg', h1', h2', h3', h4'⟩
    · exact .inr (by simp [Value.ownBlock])
    · refine .inr fun e1 => ?_
      obtain rfl : g = g' := by simpa [Value.ownBlock] using e1
      rw [hg] at hg'
      simp only [Option.some.injEq, Obj.cells.injEq] at hg'
      exact hne hg'.2.1
theorem own_lt' {w : World} {base : Nat} {e : TypeId} {size n : Nat} {v : Value} {xs : List Value} (h : w.ownsRow base e size v n xs) : ∀ g, v.ownBlock = some g → g < w.heap.size := by
  intro g hg
  rcases h.2 with ⟨rfl, _⟩ | ⟨g', cap, cur, rfl, _, hh, _⟩
  · simp [Value.ownBlock] at hg
  · obtain rfl : g' = g := by simpa [Value.ownBlock] using hg
    exact (Array.getElem?_eq_some_iff.1 hh).1
end Go.Proofs.YtnognphjndpgkaaGreatDoor

/- errataref05.Less, Same: which of two blocks stands ahead; whether two rows of blocks are the same. -/
namespace Go.Proofs.YtnognphjndpgkaaGreatDoor
open Go.RowKit Go.Shelf

theorem toList_ext {a b : ByteArray} (h : a.toList = b.toList) : a = b := by
  have : a.data.toList = b.data.toList := by rw [Lib.toList_data, Lib.toList_data] at *; simpa using h
  cases a; cases b; congr 1; exact Array.toList_inj.1 this
/-- Does a block stand ahead of another one? -/
def lessB (a b : Blk) : Bool := if Op.bytesLess a.1.toList b.1.toList = true then true else if a.1.toList = b.1.toList then Op.bytesLess a.2.1.toList b.2.1.toList else false

set_option maxRecDepth 100000 in
set_option maxHeartbeats 4000000 in
theorem refLess_any (a b c d : ByteArray) (N M : Int) (w : World) :
    Calls Tryz.prog 41 #[.agg #[.string a, .string b, .int .i64 N], .agg #[.string c, .string d, .int .i64 M]] w fun e w' => e = .returned (.bool (lessB (a, b, N) (c, d, M))) ∧ Below w.heap.size w w' := by
  obtain ⟨res, hres⟩ : ∃ r, lessB (a, b, N) (c, d, M) = r := ⟨_, rfl⟩
  rw [hres]
  unfold lessB at hres
  simp only at hres
  have HR := Lib.hid hres; clear hres
  have hal : Hid (Below w.heap.size w ((w.alloc (.cells #[.string a, .string b, .int .i64 N] 34)).alloc (.cells #[.string c, .string d, .int .i64 M] 34))) := Lib.hid (((Below.refl _ _).alloc (Nat.le_refl _) _).alloc (by simp) _)
  by_cases h1 : Op.bytesLess a.toList c.toList = true
  · have hr : res = true := by rw [← HR.out, if_pos h1]
    subst hr
    go_enter Tryz.func41, Tryz.ntmps41
    go_wp2
    go_ret
    exact ⟨rfl, hal.out⟩
  · by_cases h2 : a.toList = c.toList
    · have hr : Hid (res = Op.bytesLess b.toList d.toList) := Lib.hid (by rw [← HR.out, if_neg h1, if_pos h2])
      obtain rfl := toList_ext h2
      have h1' : Op.bytesLess a.toList a.toList = false := by simpa using h1
      clear h1 h2
      go_enter Tryz.func41, Tryz.ntmps41
      go_wp2
      go_ret
      exact ⟨ret_bool (by rw [hr.out]), hal.out⟩
    · have hr : res = false := by rw [← HR.out, if_neg h1, if_neg h2]
      subst hr
      have h1' : Op.bytesLess a.toList c.toList = false := by simpa using h1
      have h2' : (a.toList == c.toList) = false := beq_eq_false_iff_ne.2 h2
      go_enter Tryz.func41, Tryz.ntmps41
      go_wp2
      go_ret
      exact ⟨rfl, hal.out⟩

/-- A row of blocks. -/
abbrev BRuns (w : World) (v : Value) (l : List Blk) : Prop := GRuns blkCell 3 w v l
def blk0 : Blk := (⟨#[]⟩, ⟨#[]⟩, 0)
theorem blk_cells {w : World} {b o j : Nat} {x : Blk} {l : List Blk} (h : ∀ j x, l[j]? = some x → ∀ i u, (blkCell x)[i]? = some u → w.cell? ⟨b, o + j * 3 + i, none⟩ = some u) (hj : l[j]? = some x) :
    w.cell? ⟨b, o + j * 3, none⟩ = some (.string x.1) ∧ w.cell? ⟨b, o + j * 3 + 1, none⟩ = some (.string x.2.1) ∧ w.cell? ⟨b, o + j * 3 + 2, none⟩ = some (.int .i64 x.2.2) :=
  ⟨h j x hj 0 _ rfl, h j x hj 1 _ rfl, h j x hj 2 _ rfl⟩
end Go.Proofs.YtnognphjndpgkaaGreatDoor

/- Blocks stand in order: of two just one stands ahead, or both sides are the same; of three it goes on. -/
namespace Go.Proofs.YtnognphjndpgkaaGreatDoor
open Go.RowKit Go.Shelf

theorem u8_tri (x y : List UInt8) (h1 : ¬ x < y) (h2 : ¬ y < x) : x = y := List.le_antisymm (List.not_lt.1 h2) (List.not_lt.1 h1)
theorem lessB_iff (a b : Blk) : lessB a b = true ↔ a.1.toList < b.1.toList ∨ (a.1.toList = b.1.toList ∧ a.2.1.toList < b.2.1.toList) := by
  unfold lessB
  simp only [Go.Proofs.bytesLess_eq, decide_eq_true_eq]
  by_cases h1 : a.1.toList < b.1.toList
  · simp [h1]
  · by_cases h2 : a.1.toList = b.1.toList
    · simp [h2, List.lt_irrefl]
    · simp [h1, h2]
/-- The same sides. -/
def sameS (a b : Blk) : Prop := a.1 = b.1 ∧ a.2.1 = b.2.1
theorem less_one (a b : Blk) : (lessB a b = true ∧ lessB b a = false ∧ ¬ sameS a b) ∨ (lessB a b = false ∧ lessB b a = true ∧ ¬ sameS a b) ∨ (lessB a b = false ∧ lessB b a = false ∧ sameS a b) := by
  have i1 := lessB_iff a b
  have i2 := lessB_iff b a
  have ir : ∀ x : List UInt8, ¬ x < x := List.lt_irrefl
  have asy : ∀ x y : List UInt8, x < y → ¬ y < x := fun x y h k => ir x (List.lt_trans h k)
  cases h1 : lessB a b with
  | true =>
    left
    refine ⟨rfl, ?_, ?_⟩
    · cases h2 : lessB b a with
      | false => rfl
      | true =>
        exfalso
        rcases i1.1 h1 with k1 | ⟨e1, k1⟩
        · rcases i2.1 h2 with k2 | ⟨e2, k2⟩
          · exact asy _ _ k1 k2
          · rw [e2] at k1; exact ir _ k1
        · rcases i2.1 h2 with k2 | ⟨e2, k2⟩
          · rw [e1] at k2; exact ir _ k2
          · exact asy _ _ k1 k2
    · rintro ⟨e1, e2⟩
      rcases i1.1 h1 with k1 | ⟨_, k1⟩
      · rw [e1] at k1; exact ir _ k1
      · rw [e2] at k1; exact ir _ k1
  | false =>
    right
    have n1 : ¬ (a.1.toList < b.1.toList ∨ (a.1.toList = b.1.toList ∧ a.2.1.toList < b.2.1.toList)) := fun h => by rw [i1.2 h] at h1; cases h1
    cases h2 : lessB b a with
    | true =>
      left
      refine ⟨rfl, rfl, ?_⟩
      rintro ⟨e1, e2⟩
      rcases i2.1 h2 with k2 | ⟨_, k2⟩
      · rw [e1] at k2; exact ir _ k2
      · rw [e2] at k2; exact ir _ k2
    | false =>
      right
      have n2 : ¬ (b.1.toList < a.1.toList ∨ (b.1.toList = a.1.toList ∧ b.2.1.toList < a.2.1.toList)) := fun h => by rw [i2.2 h] at h2; cases h2
      have e1 : a.1.toList = b.1.toList := u8_tri _ _ (fun h => n1 (.inl h)) (fun h => n2 (.inl h))
      have e2 : a.2.1.toList = b.2.1.toList := u8_tri _ _ (fun h => n1 (.inr ⟨e1, h⟩)) (fun h => n2 (.inr ⟨e1.symm, h⟩))
      exact ⟨rfl, rfl, toList_ext e1, toList_ext e2⟩
theorem less_on (a b c : Blk) (h1 : lessB a b = true) (h2 : lessB b c = true) : lessB a c = true := by
  rw [lessB_iff] at h1 h2 ⊢
  rcases h1 with k1 | ⟨e1, k1⟩
  · rcases h2 with k2 | ⟨e2, k2⟩
    · exact .inl (List.lt_trans k1 k2)
    · exact .inl (e2 ▸ k1)
  · rcases h2 with k2 | ⟨e2, k2⟩
    · exact .inl (e1 ▸ k2)
    · exact .inr ⟨e1.trans e2, List.lt_trans k1 k2⟩
end Go.Proofs.YtnognphjndpgkaaGreatDoor

/- Blocks counted, plain: rows in order, how often each is there, blocks gathered. -/
namespace Go.Proofs.YtnognphjndpgkaaGreatDoor
open Go.RowKit Go.Shelf

theorem less_irrefl (a : Blk) : lessB a a = false := by
  rcases less_one a a with ⟨h1, h2, _⟩ | ⟨h1, h2, _⟩ | ⟨h1, _, _⟩
  · rw [h1] at h2; cases h2
  · exact h1
  · exact h1
theorem less_not {a b : Blk} (h : lessB a b = true) : lessB b a = false ∧ ¬ sameS a b := by
  rcases less_one a b with ⟨_, h2, h3⟩ | ⟨h1, _, _⟩ | ⟨h1, _, _⟩
  · exact ⟨h2, h3⟩
  · rw [h] at h1; cases h1
  · rw [h] at h1; cases h1
theorem less_key {a b c d : Blk} (h1 : sameS a c) (h2 : sameS b d) : lessB a b = lessB c d := by
  unfold lessB; rw [h1.1, h1.2, h2.1, h2.2]
theorem sameS_symm {a b : Blk} (h : sameS a b) : sameS b a := ⟨h.1.symm, h.2.symm⟩
instance (a b : Blk) : Decidable (sameS a b) := by unfold sameS; exact inferInstance

/-- Blocks stand in order, no two of one From and To. -/
def Srt : List Blk → Prop
  | [] => True
  | a :: l => (∀ b ∈ l, lessB a b = true) ∧ Srt l
/-- How often a block of such a From and To is there. -/
def cnt (l : List Blk) (k : Blk) : Int := (l.map (fun b => if sameS b k then b.2.2 else 0)).sum
theorem cnt_nil (k : Blk) : cnt [] k = 0 := rfl
theorem cnt_cons (a : Blk) (l : List Blk) (k : Blk) : cnt (a :: l) k = (if sameS a k then a.2.2 else 0) + cnt l k := by simp [cnt]
theorem cnt_append (a b : List Blk) (k : Blk) : cnt (a ++ b) k = cnt a k + cnt b k := by simp [cnt]
theorem cnt_none {l : List Blk} {k : Blk} (h : ∀ b ∈ l, ¬ sameS b k) : cnt l k = 0 := by
  induction l with
  | nil => rfl
  | cons a l ih => rw [cnt_cons, if_neg (h a (by simp)), ih (fun b hb => h b (by simp [hb]))]; rfl
/-- The Ns together. -/
def sumN (l : List Blk) : Int := (l.map (fun b => b.2.2)).sum
theorem sumN_cons (a : Blk) (l : List Blk) : sumN (a :: l) = a.2.2 + sumN l := by simp [sumN]
theorem sumN_append (a b : List Blk) : sumN (a ++ b) = sumN a + sumN b := by simp [sumN]
def posN (l : List Blk) : Prop := ∀ b ∈ l, 1 ≤ b.2.2

theorem srt_cons_cnt {a : Blk} {l : List Blk} (h : Srt (a :: l)) : cnt l a = 0 := cnt_none (fun b hb e => (less_not (h.1 b hb)).2 (sameS_symm e))
theorem srt_below {a k : Blk} {l : List Blk} (h : Srt (a :: l)) (hk : lessB k a = true) : cnt (a :: l) k = 0 :=
  cnt_none (fun b hb => by
    rcases List.mem_cons.1 hb with rfl | hb
    · exact fun e => (less_not hk).2 (sameS_symm e)
    · exact fun e => (less_not (less_on k a b hk (h.1 b hb))).2 (sameS_symm e))
/-- Two rows in order that count the same are the same. -/
theorem srt_ext {a b : List Blk} (ha : Srt a) (hb : Srt b) (pa : posN a) (pb : posN b) (h : ∀ k, cnt a k = cnt b k) : a = b := by
  induction a generalizing b with
  | nil =>
    cases b with
    | nil => rfl
    | cons y b =>
      exfalso
      have h1 := h y
      rw [cnt_nil, cnt_cons, if_pos ⟨rfl, rfl⟩, srt_cons_cnt hb] at h1
      have := pb y (by simp)
      omega
  | cons x a ih =>
    cases b with
    | nil =>
      exfalso
      have h1 := h x
      rw [cnt_nil, cnt_cons, if_pos ⟨rfl, rfl⟩, srt_cons_cnt ha] at h1
      have := pa x (by simp)
      omega
    | cons y b =>
      have px := pa x (by simp)
      have py := pb y (by simp)
      rcases less_one x y with ⟨h1, _, _⟩ | ⟨_, h1, _⟩ | ⟨_, _, h1⟩
      · exfalso
        have h2 := h x
        rw [srt_below hb h1, cnt_cons, if_pos ⟨rfl, rfl⟩, srt_cons_cnt ha] at h2
        omega
      · exfalso
        have h2 := h y
        rw [srt_below ha h1, cnt_cons, if_pos ⟨rfl, rfl⟩, srt_cons_cnt hb] at h2
        omega
      · have h2 := h x
        rw [cnt_cons, if_pos ⟨rfl, rfl⟩, srt_cons_cnt ha, cnt_cons, if_pos (sameS_symm h1)] at h2
        have h3 : cnt b x = 0 := cnt_none (fun z hz e => (less_not (hb.1 z hz)).2 ⟨h1.1.symm.trans e.1.symm, h1.2.symm.trans e.2.symm⟩)
        rw [h3] at h2
        have exy : x = y := by
          obtain ⟨x1, x2, x3⟩ := x
          obtain ⟨y1, y2, y3⟩ := y
          obtain ⟨e1, e2⟩ := h1
          simp only at e1 e2 h2
          subst e1 e2
          have : x3 = y3 := by omega
          subst this; rfl
        subst exy
        rw [ih ha.2 hb.2 (fun z hz => pa z (by simp [hz])) (fun z hz => pb z (by simp [hz])) (fun k => by
          have h5 := h k
          rw [cnt_cons, cnt_cons] at h5
          omega)]

/-- A block more among blocks in order. -/
def insB (b : Blk) : List Blk → List Blk
  | [] => [b]
  | x :: t => if lessB x b = true then x :: insB b t else if sameS x b then (x.1, x.2.1, x.2.2 + b.2.2) :: t else b :: x :: t
theorem ins_cnt (b : Blk) (l : List Blk) (k : Blk) : cnt (insB b l) k = cnt l k + if sameS b k then b.2.2 else 0 := by
  induction l with
  | nil => rw [insB, cnt_cons, cnt_nil]; omega
  | cons x t ih =>
    rw [insB]
    split
    · rw [cnt_cons, cnt_cons, ih]; omega
    · split
      · rename_i h
        rw [cnt_cons, cnt_cons]
        by_cases hk : sameS x k
        · have hk' : sameS b k := ⟨h.1.symm.trans hk.1, h.2.symm.trans hk.2⟩
          rw [if_pos hk, if_pos hk', if_pos (show sameS (x.1, x.2.1, x.2.2 + b.2.2) k from hk)]
          simp only
          omega
        · have hk' : ¬ sameS b k := fun e => hk ⟨h.1.trans e.1, h.2.trans e.2⟩
          rw [if_neg hk, if_neg hk', if_neg (show ¬ sameS (x.1, x.2.1, x.2.2 + b.2.2) k from hk)]
          omega
      · rw [cnt_cons, cnt_cons]; omega
theorem ins_sum (b : Blk) (l : List Blk) : sumN (insB b l) = sumN l + b.2.2 := by
  induction l with
  | nil => simp [insB, sumN]
  | cons x t ih =>
    rw [insB]
    split
    · rw [sumN_cons, sumN_cons, ih]; omega
    · split
      · rw [sumN_cons, sumN_cons]; simp only; omega
      · rw [sumN_cons, sumN_cons]; omega
theorem ins_pos {b : Blk} {l : List Blk} (hb : 1 ≤ b.2.2) (hl : posN l) : posN (insB b l) := by
  induction l with
  | nil => intro z hz; rw [insB] at hz; obtain rfl : z = b := (by simpa using hz); exact hb
  | cons x t ih =>
    have hx := hl x (by simp)
    have ht : posN t := fun z hz => hl z (by simp [hz])
    rw [insB]
    split
    · intro z hz
      rcases List.mem_cons.1 hz with rfl | hz
      · exact hx
      · exact ih ht z hz
    · split
      · intro z hz
        rcases List.mem_cons.1 hz with rfl | hz
        · simp only; omega
        · exact ht z hz
      · intro z hz
        rcases List.mem_cons.1 hz with rfl | hz
        · exact hb
        · exact hl z hz
/-- All of a row with a block more have the key of the block, or of one that was there. -/
theorem ins_keys (b : Blk) (l : List Blk) : ∀ z ∈ insB b l, sameS z b ∨ ∃ y ∈ l, sameS z y := by
  induction l with
  | nil => intro z hz; rw [insB] at hz; obtain rfl : z = b := (by simpa using hz); exact .inl ⟨rfl, rfl⟩
  | cons x t ih =>
    intro z hz
    rw [insB] at hz
    split at hz
    · rcases List.mem_cons.1 hz with rfl | hz
      · exact .inr ⟨z, by simp, rfl, rfl⟩
      · rcases ih z hz with h | ⟨y, hy, h⟩
        · exact .inl h
        · exact .inr ⟨y, by simp [hy], h⟩
    · split at hz
      · rcases List.mem_cons.1 hz with rfl | hz
        · exact .inr ⟨x, by simp, rfl, rfl⟩
        · exact .inr ⟨z, by simp [hz], rfl, rfl⟩
      · rcases List.mem_cons.1 hz with rfl | hz
        · exact .inl ⟨rfl, rfl⟩
        · exact .inr ⟨z, hz, rfl, rfl⟩
theorem ins_srt {b : Blk} {l : List Blk} (hl : Srt l) : Srt (insB b l) := by
  induction l with
  | nil => rw [insB]; exact ⟨fun z hz => by simp at hz, trivial⟩
  | cons x t ih =>
    rw [insB]
    split
    · rename_i h
      refine ⟨fun z hz => ?_, ih hl.2⟩
      rcases ins_keys b t z hz with e | ⟨y, hy, e⟩
      · rw [less_key ⟨rfl, rfl⟩ e]; exact h
      · rw [less_key ⟨rfl, rfl⟩ e]; exact hl.1 y hy
    · split
      · refine ⟨fun z hz => ?_, hl.2⟩
        exact (less_key (a := (x.1, x.2.1, x.2.2 + b.2.2)) (c := x) ⟨rfl, rfl⟩ ⟨rfl, rfl⟩).trans (hl.1 z hz)
      · rename_i h1 h2
        have hbx : lessB b x = true := by
          rcases less_one x b with ⟨h, _, _⟩ | ⟨_, h, _⟩ | ⟨_, _, h⟩
          · exact absurd h h1
          · exact h
          · exact absurd h h2
        refine ⟨fun z hz => ?_, hl⟩
        rcases List.mem_cons.1 hz with rfl | hz
        · exact hbx
        · exact less_on b x z hbx (hl.1 z hz)
/-- Blocks gathered: each once, in order. -/
def gat (l : List Blk) : List Blk := l.foldl (fun out b => insB b out) []
theorem gat_snoc (l : List Blk) (b : Blk) : gat (l ++ [b]) = insB b (gat l) := by simp [gat]
theorem foldl_facts (l out : List Blk) (ho : Srt out) : Srt (l.foldl (fun out b => insB b out) out) ∧ (∀ k, cnt (l.foldl (fun out b => insB b out) out) k = cnt out k + cnt l k) ∧ sumN (l.foldl (fun out b => insB b out) out) = sumN out + sumN l := by
  induction l generalizing out with
  | nil => exact ⟨ho, fun k => by rw [cnt_nil]; simp, by simp [sumN]⟩
  | cons b l ih =>
    obtain ⟨h1, h2, h3⟩ := ih (insB b out) (ins_srt ho)
    refine ⟨h1, fun k => ?_, ?_⟩
    · rw [List.foldl_cons, h2 k, ins_cnt, cnt_cons]; omega
    · rw [List.foldl_cons, h3, ins_sum, sumN_cons]; omega
theorem foldl_pos (l out : List Blk) (ho : posN out) (hl : posN l) : posN (l.foldl (fun out b => insB b out) out) := by
  induction l generalizing out with
  | nil => exact ho
  | cons b l ih => exact ih (insB b out) (ins_pos (hl b (by simp)) ho) (fun z hz => hl z (by simp [hz]))
theorem gat_srt (l : List Blk) : Srt (gat l) := (foldl_facts l [] trivial).1
theorem gat_cnt (l : List Blk) (k : Blk) : cnt (gat l) k = cnt l k := by have := (foldl_facts l [] trivial).2.1 k; rw [cnt_nil] at this; unfold gat; omega
theorem gat_sum (l : List Blk) : sumN (gat l) = sumN l := by have := (foldl_facts l [] trivial).2.2; unfold gat; rw [this]; simp [sumN]
theorem gat_pos {l : List Blk} (h : posN l) : posN (gat l) := foldl_pos l [] (fun z hz => by simp at hz) h
/-- What is in order, and counts as a list does, is that list gathered. -/
theorem gat_uniq {l t : List Blk} (hl : posN l) (ht : Srt t) (pt : posN t) (h : ∀ k, cnt t k = cnt l k) : t = gat l :=
  srt_ext ht (gat_srt l) pt (gat_pos hl) (fun k => by rw [h k, gat_cnt])
theorem gat_perm {l m : List Blk} (hl : posN l) (hm : posN m) (h : ∀ k, cnt l k = cnt m k) : gat l = gat m :=
  gat_uniq hm (gat_srt l) (gat_pos hl) (fun k => by rw [gat_cnt, h k])
theorem gat_self {l : List Blk} (hl : posN l) (hs : Srt l) : gat l = l := (gat_uniq hl hs hl (fun _ => rfl)).symm
theorem gat_two {l m : List Blk} (hl : posN l) (hm : posN m) : gat (gat l ++ gat m) = gat (l ++ m) :=
  gat_perm (fun z hz => by rcases List.mem_append.1 hz with h | h; exact gat_pos hl z h; exact gat_pos hm z h) (fun z hz => by rcases List.mem_append.1 hz with h | h; exact hl z h; exact hm z h) (fun k => by rw [cnt_append, cnt_append, gat_cnt, gat_cnt])
theorem gat_swap {l m : List Blk} (hl : posN l) (hm : posN m) : gat (l ++ m) = gat (m ++ l) :=
  gat_perm (fun z hz => by rcases List.mem_append.1 hz with h | h; exact hl z h; exact hm z h) (fun z hz => by rcases List.mem_append.1 hz with h | h; exact hm z h; exact hl z h) (fun k => by rw [cnt_append, cnt_append]; omega)
theorem ins_len (b : Blk) (l : List Blk) : (insB b l).length ≤ l.length + 1 := by
  induction l with
  | nil => simp [insB]
  | cons x t ih =>
    rw [insB]
    split
    · simp only [List.length_cons]; omega
    · split
      · simp
      · simp
theorem foldl_len (l out : List Blk) : (l.foldl (fun out b => insB b out) out).length ≤ out.length + l.length := by
  induction l generalizing out with
  | nil => simp
  | cons b l ih =>
    have h1 := ih (insB b out)
    have h2 := ins_len b out
    rw [List.foldl_cons, List.length_cons]; omega
theorem gat_len (l : List Blk) : (gat l).length ≤ l.length := by have := foldl_len l []; unfold gat; simpa using this
end Go.Proofs.YtnognphjndpgkaaGreatDoor

/- Tables of blocks, plain: what the document answers, and what follows. -/
namespace Go.Proofs.YtnognphjndpgkaaGreatDoor
open Go.RowKit Go.Shelf

/-- Why the first block that may not be may not, or 0. -/
def chkAll : List Blk → Int
  | [] => 0
  | b :: l => if chkS b = 0 then chkAll l else chkS b
theorem chkAll_zero {l : List Blk} : chkAll l = 0 ↔ ∀ b ∈ l, chkS b = 0 := by
  induction l with
  | nil => simp [chkAll]
  | cons a l ih =>
    rw [chkAll]
    split
    · rename_i h
      rw [ih]
      constructor
      · intro h2 b hb
        rcases List.mem_cons.1 hb with rfl | hb
        · exact h
        · exact h2 b hb
      · exact fun h2 b hb => h2 b (by simp [hb])
    · rename_i h
      constructor
      · exact fun h2 => absurd h2 h
      · exact fun h2 => absurd (h2 a (by simp)) h
theorem chkAll_append (a b : List Blk) : chkAll (a ++ b) = if chkAll a = 0 then chkAll b else chkAll a := by
  induction a with
  | nil => simp [chkAll]
  | cons x a ih =>
    rw [List.cons_append, chkAll, chkAll]
    split
    · exact ih
    · rfl
theorem chkS_n {b : Blk} (h : chkS b = 0) : 1 ≤ b.2.2 ∧ b.2.2 ≤ 1073741824 := by
  unfold chkS at h
  split at h
  · split at h
    · cases h
    · split at h
      · cases h
      · split at h
        · cases h
        · omega
  · cases h
/-- A block that may be, with another N. -/
theorem chkS_other {b : Blk} (h : chkS b = 0) (n : Int) (h1 : 1 ≤ n) (h2 : n ≤ 1073741824) : chkS (b.1, b.2.1, n) = 0 := by
  unfold chkS at h ⊢
  split at h
  · rename_i hv
    split at h
    · cases h
    · rename_i hl
      split at h
      · cases h
      · rename_i hn
        simp only
        rw [if_pos hv, if_neg hl, if_neg hn, if_neg (by omega)]
  · cases h
theorem posN_of {l : List Blk} (h : chkAll l = 0) : posN l := fun b hb => (chkS_n (chkAll_zero.1 h b hb)).1

/-- Each stands ahead of the next one. -/
def ordB : List Blk → Bool
  | [] => true
  | a :: l => (match l.head? with | none => true | some b => lessB a b) && ordB l
theorem ordB_srt (l : List Blk) : ordB l = true ↔ Srt l := by
  induction l with
  | nil => simp [ordB, Srt]
  | cons a l ih =>
    rw [ordB, Bool.and_eq_true, ih]
    cases l with
    | nil => simp [Srt]
    | cons b l =>
      constructor
      · rintro ⟨h1, h2⟩
        refine ⟨fun z hz => ?_, h2⟩
        rcases List.mem_cons.1 hz with rfl | hz
        · exact h1
        · exact less_on a b z h1 (h2.1 z hz)
      · exact fun h => ⟨h.1 b (by simp), h.2⟩
/-- Whether a table may be. -/
def chkT (l : List Blk) : Int := if chkAll l = 0 then (if ordB l then (if 4096 < l.length ∨ 1073741824 < sumN l then 6 else 0) else 7) else chkAll l
def totS (l : List Blk) : Int := if chkT l = 0 then sumN l else 0
def finS (l : List Blk) (k : Blk) : Int := if chkT l = 0 then cnt l k else 0
def tabE (l : List Blk) : Int := if chkAll l = 0 then (if 4096 < (gat l).length ∨ 1073741824 < sumN l then 6 else 0) else chkAll l
def tabS (l : List Blk) : List Blk := if tabE l = 0 then gat l else []
def merE (a b : List Blk) : Int := if chkT a = 0 then (if chkT b = 0 then tabE (a ++ b) else chkT b) else chkT a
def merS (a b : List Blk) : List Blk := if merE a b = 0 then gat (a ++ b) else []
theorem chkT_facts {l : List Blk} (h : chkT l = 0) : chkAll l = 0 ∧ Srt l ∧ l.length ≤ 4096 ∧ sumN l ≤ 1073741824 := by
  unfold chkT at h
  split at h
  · rename_i h0
    split at h
    · rename_i h1
      split at h
      · cases h
      · exact ⟨h0, (ordB_srt l).1 h1, by omega, by omega⟩
    · cases h
  · rename_i h0; exact absurd h h0
theorem chkT_of {l : List Blk} (h1 : chkAll l = 0) (h2 : Srt l) (h3 : l.length ≤ 4096) (h4 : sumN l ≤ 1073741824) : chkT l = 0 := by
  unfold chkT; rw [if_pos h1, if_pos ((ordB_srt l).2 h2), if_neg (by omega)]
theorem tabE_facts {l : List Blk} (h : tabE l = 0) : chkAll l = 0 ∧ (gat l).length ≤ 4096 ∧ sumN l ≤ 1073741824 := by
  unfold tabE at h
  split at h
  · rename_i h0
    split at h
    · cases h
    · exact ⟨h0, by omega, by omega⟩
  · rename_i h0; exact absurd h h0
theorem tabE_of {l : List Blk} (h1 : chkAll l = 0) (h2 : (gat l).length ≤ 4096) (h3 : sumN l ≤ 1073741824) : tabE l = 0 := by
  unfold tabE; rw [if_pos h1, if_neg (by omega)]

theorem sumN_nonneg {l : List Blk} (h : posN l) : 0 ≤ sumN l := by
  induction l with
  | nil => simp [sumN]
  | cons a l ih =>
    have h1 := h a (by simp)
    have h2 := ih (fun z hz => h z (by simp [hz]))
    rw [sumN_cons]; omega
theorem mem_sumN {l : List Blk} (h : posN l) : ∀ b ∈ l, b.2.2 ≤ sumN l := by
  induction l with
  | nil => simp
  | cons a l ih =>
    intro b hb
    have h1 := h a (by simp)
    have h2 : posN l := fun z hz => h z (by simp [hz])
    have h3 := sumN_nonneg h2
    rw [sumN_cons]
    rcases List.mem_cons.1 hb with rfl | hb
    · omega
    · have := ih h2 b hb; omega
theorem gat_keys (l out : List Blk) : ∀ z ∈ l.foldl (fun out b => insB b out) out, (∃ y ∈ l, sameS z y) ∨ ∃ y ∈ out, sameS z y := by
  induction l generalizing out with
  | nil => exact fun z hz => .inr ⟨z, hz, rfl, rfl⟩
  | cons b l ih =>
    intro z hz
    rcases ih (insB b out) z hz with ⟨y, hy, h⟩ | ⟨y, hy, h⟩
    · exact .inl ⟨y, by simp [hy], h⟩
    · rcases ins_keys b out y hy with h2 | ⟨x, hx, h2⟩
      · exact .inl ⟨b, by simp, h.1.trans h2.1, h.2.trans h2.2⟩
      · exact .inr ⟨x, hx, h.1.trans h2.1, h.2.trans h2.2⟩
/-- What is gathered of blocks that may be may be. -/
theorem gat_chk {l : List Blk} (h : chkAll l = 0) (hs : sumN l ≤ 1073741824) : chkAll (gat l) = 0 := by
  refine chkAll_zero.2 (fun z hz => ?_)
  have hp := gat_pos (posN_of h)
  have h1 := hp z hz
  have h2 := mem_sumN hp z hz
  rw [gat_sum] at h2
  rcases gat_keys l [] z hz with ⟨y, hy, e⟩ | ⟨y, hy, _⟩
  · have h3 := chkS_other (chkAll_zero.1 h y hy) z.2.2 h1 (by omega)
    rw [← e.1, ← e.2] at h3
    exact h3
  · simp at hy
/-- A table may be. -/
theorem tab_chk {l : List Blk} (h : tabE l = 0) : chkT (gat l) = 0 := by
  obtain ⟨h1, h2, h3⟩ := tabE_facts h
  exact chkT_of (gat_chk h1 h3) (gat_srt l) h2 (by rw [gat_sum]; exact h3)
/-- In whatever order blocks come. -/
theorem tab_swap (a b : List Blk) : (tabE (a ++ b) = 0 ↔ tabE (b ++ a) = 0) ∧ (tabE (a ++ b) = 0 → tabS (a ++ b) = tabS (b ++ a)) := by
  have key : ∀ a b : List Blk, tabE (a ++ b) = 0 → tabE (b ++ a) = 0 ∧ gat (a ++ b) = gat (b ++ a) := fun a b h => by
    obtain ⟨h1, h2, h3⟩ := tabE_facts h
    have ha : ∀ x ∈ a ++ b, chkS x = 0 := chkAll_zero.1 h1
    have pa : posN a := fun z hz => (chkS_n (ha z (by simp [hz]))).1
    have pb : posN b := fun z hz => (chkS_n (ha z (by simp [hz]))).1
    have hg := gat_swap pa pb
    refine ⟨tabE_of (chkAll_zero.2 (fun z hz => ha z ?_)) (by rw [← hg]; exact h2) ?_, hg⟩
    · rcases List.mem_append.1 hz with h | h
      · simp [h]
      · simp [h]
    · rw [sumN_append] at h3 ⊢; omega
  refine ⟨⟨fun h => (key a b h).1, fun h => (key b a h).1⟩, fun h => ?_⟩
  rw [tabS, if_pos h, tabS, if_pos (key a b h).1, (key a b h).2]
/-- Merged, two tables are that of both. -/
theorem mer_tab {l m : List Blk} (hl : tabE l = 0) (hm : tabE m = 0) : merE (tabS l) (tabS m) = tabE (l ++ m) ∧ merS (tabS l) (tabS m) = tabS (l ++ m) := by
  obtain ⟨l1, l2, l3⟩ := tabE_facts hl
  obtain ⟨m1, m2, m3⟩ := tabE_facts hm
  have pl := posN_of l1
  have pm := posN_of m1
  have e1 : merE (tabS l) (tabS m) = tabE (l ++ m) := by
    rw [tabS, if_pos hl, tabS, if_pos hm, merE, if_pos (tab_chk hl), if_pos (tab_chk hm)]
    have c1 : chkAll (gat l ++ gat m) = 0 := by rw [chkAll_append, if_pos (gat_chk l1 l3)]; exact gat_chk m1 m3
    have c2 : chkAll (l ++ m) = 0 := by rw [chkAll_append, if_pos l1]; exact m1
    unfold tabE
    rw [if_pos c1, if_pos c2, gat_two pl pm, sumN_append, sumN_append, gat_sum, gat_sum]
  refine ⟨e1, ?_⟩
  rw [merS, e1, tabS, tabS, tabS]
  by_cases h : tabE (l ++ m) = 0
  · rw [if_pos h, if_pos h, if_pos hl, if_pos hm, gat_two pl pm]
  · rw [if_neg h, if_neg h]
theorem mer_none {l : List Blk} (hl : tabE l = 0) : merE (tabS l) [] = 0 ∧ merS (tabS l) [] = tabS l := by
  have h0 : tabE [] = 0 := by decide
  have h1 : tabS [] = [] := by unfold tabS gat; rw [if_pos h0]; rfl
  obtain ⟨e1, e2⟩ := mer_tab hl h0
  rw [h1, List.append_nil] at e1 e2
  exact ⟨by rw [e1]; exact hl, e2⟩
/-- Of each block its table tells how often it is there. -/
theorem fin_tab {l : List Blk} (hl : tabE l = 0) (k : Blk) : finS (tabS l) k = cnt l k := by
  rw [tabS, if_pos hl, finS, if_pos (tab_chk hl), gat_cnt]
theorem cnt_nonneg {l : List Blk} (h : posN l) (k : Blk) : 0 ≤ cnt l k := by
  induction l with
  | nil => rw [cnt_nil]; omega
  | cons a l ih =>
    have h1 := h a (by simp)
    have h2 := ih (fun z hz => h z (by simp [hz]))
    rw [cnt_cons]
    split <;> omega
theorem cnt_mem {l : List Blk} (h : posN l) : ∀ b ∈ l, b.2.2 ≤ cnt l b := by
  induction l with
  | nil => simp
  | cons a l ih =>
    intro b hb
    have h1 := h a (by simp)
    have h2 : posN l := fun z hz => h z (by simp [hz])
    rw [cnt_cons]
    rcases List.mem_cons.1 hb with rfl | hb
    · rw [if_pos ⟨rfl, rfl⟩]
      have := cnt_nonneg h2 b
      omega
    · have := ih h2 b hb
      split <;> omega
theorem tot_tab {l : List Blk} (hl : tabE l = 0) : totS (tabS l) = sumN l := by
  rw [tabS, if_pos hl, totS, if_pos (tab_chk hl), gat_sum]
end Go.Proofs.YtnognphjndpgkaaGreatDoor

