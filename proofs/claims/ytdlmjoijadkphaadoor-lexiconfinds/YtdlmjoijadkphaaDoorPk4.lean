/- Texts that several proofs of this seat share, one behind the other: XBestP XLays XSort XRef. -/
import Derived.Test.YtdlmjoijadkphaaDoorPk2
import Derived.Test.YtdlmjoijadkphaaDoorPk3
import Derived.Test.YtdlmjoijadkphaaDoorShelf2
import Derived.Shelf.SlSortCmp.QuietGrown
import Derived.Shelf.SlSortCmp.WholeK
import Derived.Sort.OwnSorted
import Derived.Shelf.SlSortCmp.NoneTotal
/- The most frequent words, plain. -/
namespace Go.Proofs.YtdlmjoijadkphaaDoor
open Go.RowKit Go.Shelf

/-- A word more among words of which the more frequent ones come first. -/
def insF (b : Wrd) : List Wrd → List Wrd
  | [] => [b]
  | x :: t => if x.2 < b.2 then b :: x :: t else x :: insF b t
def bst (l : List Wrd) : List Wrd := l.foldl (fun out b => insF b out) []
def wbE (l : List Wrd) (k : Int) : Int := if wisS l = 0 then (if k < 0 ∨ 1000 < k then 2 else 0) else wisS l
def wbS (l : List Wrd) (k : Int) : List Wrd := if wbE l k = 0 then (bst l).take k.toNat else []
/-- Ever less frequent. -/
def dscF (l : List Wrd) : Prop := l.Pairwise (fun x y => y.2 ≤ x.2)
theorem insF_perm (b : Wrd) (l : List Wrd) : (insF b l).Perm (b :: l) := by
  induction l with
  | nil => exact List.Perm.refl _
  | cons x t ih =>
    rw [insF]
    split
    · exact List.Perm.refl _
    · exact (ih.cons x).trans (List.Perm.swap b x t)
theorem insF_dsc {b : Wrd} {l : List Wrd} (h : dscF l) : dscF (insF b l) := by
  induction l with
  | nil => exact List.pairwise_singleton _ _
  | cons x t ih =>
    obtain ⟨h1, h2⟩ := List.pairwise_cons.1 h
    rw [insF]
    split
    · rename_i hlt
      refine List.pairwise_cons.2 ⟨fun y hy => ?_, h⟩
      rcases List.mem_cons.1 hy with rfl | hy
      · omega
      · have := h1 y hy; omega
    · rename_i hge
      refine List.pairwise_cons.2 ⟨fun y hy => ?_, ih h2⟩
      rcases List.mem_cons.1 ((insF_perm b t).subset hy) with rfl | hy
      · omega
      · exact h1 y hy
theorem insF_at (b : Wrd) (g : List Wrd) (q : Nat) (h1 : ∀ j y, j < q → g[j]? = some y → b.2 ≤ y.2) (h2 : q ≤ g.length) (h3 : ∀ y, g[q]? = some y → y.2 < b.2) : insF b g = g.take q ++ [b] ++ g.drop q := by
  induction g generalizing q with
  | nil =>
    obtain rfl : q = 0 := by simpa using h2
    rfl
  | cons a g ih =>
    cases q with
    | zero => rw [insF, if_pos (h3 a rfl)]; rfl
    | succ q =>
      have := h1 0 a (by omega) rfl
      rw [insF, if_neg (by omega), ih q (fun j y hj hy => h1 (j + 1) y (by omega) (by simpa using hy)) (by simpa using h2) (fun y hy => h3 y (by simpa using hy))]
      simp
theorem dscF_at {g : List Wrd} (h : dscF g) {i j : Nat} {x y : Wrd} (hij : i < j) (hx : g[i]? = some x) (hy : g[j]? = some y) : y.2 ≤ x.2 := by
  obtain ⟨hi, rfl⟩ := List.getElem?_eq_some_iff.1 hx
  obtain ⟨hj, rfl⟩ := List.getElem?_eq_some_iff.1 hy
  exact List.pairwise_iff_getElem.1 h i j hi hj hij
theorem bst_snoc (l : List Wrd) (b : Wrd) : bst (l ++ [b]) = insF b (bst l) := by simp [bst]
theorem bst_take {l : List Wrd} (k : Nat) (x : Wrd) (h : l[k]? = some x) : bst (l.take (k + 1)) = insF x (bst (l.take k)) := by
  rw [List.take_add_one, h]; exact bst_snoc _ _
theorem foldF_perm (l out : List Wrd) : (l.foldl (fun out b => insF b out) out).Perm (l ++ out) := by
  induction l generalizing out with
  | nil => exact List.Perm.refl _
  | cons b l ih =>
    refine (ih (insF b out)).trans (((insF_perm b out).append_left l).trans ?_)
    exact List.perm_middle
theorem bst_perm (l : List Wrd) : (bst l).Perm l := by have := foldF_perm l []; rwa [List.append_nil] at this
theorem bst_len (l : List Wrd) : (bst l).length = l.length := (bst_perm l).length_eq
theorem foldF_dsc (l out : List Wrd) (h : dscF out) : dscF (l.foldl (fun out b => insF b out) out) := by
  induction l generalizing out with
  | nil => exact h
  | cons b l ih => exact ih _ (insF_dsc h)
theorem bst_dsc (l : List Wrd) : dscF (bst l) := foldF_dsc l [] List.Pairwise.nil
/-- The more frequent one first, as frequent ones rising. -/
def ltF (x y : Wrd) : Prop := y.2 < x.2 ∨ (x.2 = y.2 ∧ ltK x.1 y.1 = true)
theorem ltF_trans {x y z : Wrd} (h1 : ltF x y) (h2 : ltF y z) : ltF x z := by
  rcases h1 with h1 | ⟨h1, k1⟩
  · rcases h2 with h2 | ⟨h2, _⟩
    · exact .inl (by omega)
    · exact .inl (by omega)
  · rcases h2 with h2 | ⟨h2, k2⟩
    · exact .inl (by omega)
    · exact .inr ⟨by omega, ltK_on k1 k2⟩
theorem ltF_not {x y : Wrd} (h1 : ltF x y) : ¬ ltF y x := by
  rintro (h2 | ⟨h2, k2⟩)
  · rcases h1 with h1 | ⟨h1, _⟩ <;> omega
  · rcases h1 with h1 | ⟨_, k1⟩
    · omega
    · rw [(ltK_not k1).1] at k2; cases k2
theorem insF_mem (b : Wrd) (l : List Wrd) : ∀ z, z ∈ insF b l ↔ z = b ∨ z ∈ l := fun z => by
  rw [(insF_perm b l).mem_iff, List.mem_cons]
theorem insF_ltF {b : Wrd} {l : List Wrd} (h : l.Pairwise ltF) (hb : ∀ z ∈ l, ltK z.1 b.1 = true) : (insF b l).Pairwise ltF := by
  induction l with
  | nil => exact List.pairwise_singleton _ _
  | cons x t ih =>
    obtain ⟨h1, h2⟩ := List.pairwise_cons.1 h
    rw [insF]
    split
    · rename_i hlt
      refine List.pairwise_cons.2 ⟨fun y hy => ?_, h⟩
      rcases List.mem_cons.1 hy with rfl | hy
      · exact .inl hlt
      · exact ltF_trans (.inl hlt) (h1 y hy)
    · rename_i hge
      refine List.pairwise_cons.2 ⟨fun y hy => ?_, ih h2 (fun z hz => hb z (by simp [hz]))⟩
      rcases (insF_mem b t y).1 hy with rfl | hy
      · rcases Int.lt_or_eq_of_le (Int.not_lt.1 hge) with h3 | h3
        · exact .inl h3
        · exact .inr ⟨h3.symm, hb x (by simp)⟩
      · exact h1 y hy
theorem foldF_ltF (l out : List Wrd) (ho : out.Pairwise ltF) (hs : SrtW l) (hb : ∀ z ∈ out, ∀ b ∈ l, ltK z.1 b.1 = true) : (l.foldl (fun out b => insF b out) out).Pairwise ltF := by
  induction l generalizing out with
  | nil => exact ho
  | cons b l ih =>
    refine ih (insF b out) (insF_ltF ho (fun z hz => hb z hz b (by simp))) hs.2 (fun z hz c hc => ?_)
    rcases (insF_mem b out z).1 hz with rfl | hz
    · exact hs.1 c hc
    · exact hb z hz c (by simp [hc])
theorem bst_ltF {l : List Wrd} (hs : SrtW l) : (bst l).Pairwise ltF := foldF_ltF l [] List.Pairwise.nil hs (fun z hz => by simp at hz)
/-- Two rows of the same, each ever less so, are one. -/
theorem ltF_uniq {a b : List Wrd} (h : a.Perm b) (ha : a.Pairwise ltF) (hb : b.Pairwise ltF) : a = b := by
  induction a generalizing b with
  | nil => exact (List.nil_perm.1 h).symm
  | cons x a ih =>
    cases b with
    | nil => exact absurd (List.perm_nil.1 h) (by simp)
    | cons y b =>
      obtain ⟨a1, a2⟩ := List.pairwise_cons.1 ha
      obtain ⟨b1, b2⟩ := List.pairwise_cons.1 hb
      have e : x = y := by
        rcases List.mem_cons.1 (h.subset (by simp : x ∈ x :: a)) with e | hx
        · exact e
        · rcases List.mem_cons.1 (h.symm.subset (by simp : y ∈ y :: b)) with e | hy
          · exact e.symm
          · exact absurd (a1 y hy) (ltF_not (b1 x hx))
      subst e
      rw [ih ((List.perm_cons x).1 h) a2 b2]
/-- A row while one place wanders through it. -/
def rowF (g : List Wrd) (q : Nat) (z : Wrd) : List Wrd := g.take q ++ [z] ++ g.drop q
theorem rowF_len (g : List Wrd) (q : Nat) (z : Wrd) (h : q ≤ g.length) : (rowF g q z).length = g.length + 1 := by
  unfold rowF; simp only [List.length_append, List.length_take, List.length_drop, List.length_cons, List.length_nil]; omega
theorem rowF_end (g : List Wrd) (z : Wrd) : rowF g g.length z = g ++ [z] := by unfold rowF; simp
theorem rowF_set (g : List Wrd) (q : Nat) (z x : Wrd) (h : q ≤ g.length) : (rowF g q z).set q x = rowF g q x := by
  unfold rowF
  have : (g.take q).length = q := by rw [List.length_take]; omega
  rw [List.append_assoc, List.append_assoc, List.set_append_right _ _ (by omega), this]
  simp
theorem rowF_at (g : List Wrd) (q : Nat) (z y : Wrd) (hy : g[q]? = some y) : (rowF g (q + 1) z)[q]? = some y := by
  have hq := (List.getElem?_eq_some_iff.1 hy).1
  unfold rowF
  rw [List.append_assoc, List.getElem?_append_left (by rw [List.length_take]; omega), List.getElem?_take, if_pos (by omega), hy]
theorem rowF_down (g : List Wrd) (q : Nat) (y : Wrd) (hy : g[q]? = some y) : rowF g (q + 1) y = rowF g q y := by
  have hq := (List.getElem?_eq_some_iff.1 hy).1
  have hd : g.drop q = y :: g.drop (q + 1) := by
    rw [List.drop_eq_getElem_cons hq, (List.getElem?_eq_some_iff.1 hy).2]
  unfold rowF
  rw [hd, List.take_add_one, hy]
  simp
end Go.Proofs.YtdlmjoijadkphaaDoor

/- The functions that sort and search words: together$1, moreFrequent, place$1, cmp.Or. -/
namespace Go.Proofs.YtdlmjoijadkphaaDoor
open Go.RowKit Go.Shelf Go.Lib
open Go.Sort (grow alloc_eq_grow grow_grow SWO PermIn SortedIn HoldsK)
set_option linter.unusedSimpArgs false
set_option linter.unusedVariables false

theorem xgrow_more (w : World) (q q2 : Nat) (os o2 : Array Obj) : ∃ q' os', grow ((grow (w.drewN q) os).drewN q2) o2 = grow (w.drewN q') os' := ⟨q + q2, os ++ o2, by simp [grow, World.drewN, Nat.add_assoc, Array.append_assoc]⟩
theorem xbelow_grows (w : World) (q : Nat) (os : Array Obj) : Below w.heap.size w (grow (w.drewN q) os) :=
  ⟨rfl, rfl, rfl, by simp [grow, World.drewN], fun k hk => by
    show (w.heap ++ os)[k]? = _
    rw [Array.getElem?_append_left hk]⟩
/-- By their texts. -/
def cmpT (x y : Wrd) : Int := cmpK x.1 y.1
theorem ltOf_cmpT (x y : Wrd) : ltOf cmpT x y = ltK x.1 y.1 := by
  unfold ltOf cmpT
  have := cmpK_neg x.1 y.1
  rw [Bool.eq_iff_iff]
  simpa using this
theorem swo_cmpT : SWO (ltOf cmpT) where
  irrefl x := by rw [ltOf_cmpT]; exact ltK_irrefl _
  trans x y z h1 h2 := by rw [ltOf_cmpT] at *; exact ltK_on h1 h2
  ntrans x y z h1 h2 := by rw [ltOf_cmpT] at *; exact ltK_ge_on h2 h1
/-- The more frequent one first. -/
def cmpFq (x y : Wrd) : Int := if Lib.compareInt y.2 x.2 = 0 then cmpK x.1 y.1 else Lib.compareInt y.2 x.2
theorem ltOf_cmpFq (x y : Wrd) : ltOf cmpFq x y = true ↔ ltF x y := by
  have h := cmpK_neg x.1 y.1
  unfold ltOf cmpFq ltF Lib.compareInt
  by_cases h1 : y.2 < x.2
  · simp [h1]
  · by_cases h2 : x.2 < y.2
    · simp [h1, h2]; omega
    · have e : x.2 = y.2 := by omega
      simp [e, h]
theorem swo_cmpFq : SWO (ltOf cmpFq) where
  irrefl x := by
    cases h : ltOf cmpFq x x with
    | false => rfl
    | true => exact absurd ((ltOf_cmpFq x x).1 h) (ltF_not ((ltOf_cmpFq x x).1 h))
  trans x y z h1 h2 := by rw [ltOf_cmpFq] at *; exact ltF_trans h1 h2
  ntrans x y z h1 h2 := by
    cases h3 : ltOf cmpFq x z with
    | false => rfl
    | true =>
      exfalso
      have k1 : ¬ ltF x y := fun e => by rw [(ltOf_cmpFq x y).2 e] at h1; cases h1
      have k2 : ¬ ltF y z := fun e => by rw [(ltOf_cmpFq y z).2 e] at h2; cases h2
      have k3 := (ltOf_cmpFq x z).1 h3
      have a1 : x.2 ≤ y.2 := Int.not_lt.1 (fun h => k1 (.inl h))
      have a2 : y.2 ≤ z.2 := Int.not_lt.1 (fun h => k2 (.inl h))
      rcases k3 with h | ⟨h, h'⟩
      · omega
      · have e1 : x.2 = y.2 := by omega
        have e2 : y.2 = z.2 := by omega
        have b1 : ltK x.1 y.1 = false := by
          cases hb : ltK x.1 y.1 with
          | false => rfl
          | true => exact absurd (.inr ⟨e1, hb⟩) k1
        have b2 : ltK y.1 z.1 = false := by
          cases hb : ltK y.1 z.1 with
          | false => rfl
          | true => exact absurd (.inr ⟨e2, hb⟩) k2
        rw [ltK_ge_on b2 b1] at h'
        cases h'

set_option maxRecDepth 100000 in
set_option maxHeartbeats 4000000 in
theorem tog1_lays (x y : Wrd) (w : World) :
    Calls Tryd.prog 37 #[.agg (wrdCell x).toArray, .agg (wrdCell y).toArray] w fun e w' => e = .returned (.int .i64 (cmpT x y)) ∧ ∃ q os, w' = grow (w.drewN q) os := by
  obtain ⟨x1, x2⟩ := x
  obtain ⟨y1, y2⟩ := y
  show Calls Tryd.prog 37 #[.agg #[.string x1, .int .i64 x2], .agg #[.string y1, .int .i64 y2]] w _
  have c1 := fun w => Tryd.strings_Compare x1 y1 w
  have hc : Lib.compareBytes x1.data.toList y1.data.toList = cmpT (x1, x2) (y1, y2) := rfl
  rw [hc] at c1
  obtain ⟨r, hr⟩ : ∃ r, cmpT (x1, x2) (y1, y2) = r := ⟨_, rfl⟩
  rw [hr] at c1 ⊢
  have C1 := Lib.hid c1
  clear c1 hc hr
  have h2 : Hid (∀ o o' : Obj, ∃ q os, (w.alloc o).alloc o' = grow (w.drewN q) os) := Lib.hid (fun o o' => ⟨0, _, by rw [alloc_eq_grow, alloc_eq_grow, grow_grow]; rfl⟩)
  go_enter Tryd.func37, Tryd.ntmps37
  go_wp2_with fail
  refine (C1.out _).mono ?_
  rintro e w1 ⟨rfl, rfl⟩
  go_wp2
  go_ret
  exact ⟨rfl, h2.out _ _⟩
set_option maxRecDepth 100000 in
set_option maxHeartbeats 4000000 in
theorem plc1_lays (a : ByteArray) (N : Int) (s : ByteArray) (w : World) :
    Calls Tryd.prog 43 #[.agg #[.string a, .int .i64 N], .string s] w fun e w' => e = .returned (.int .i64 (cmpK a s)) ∧ ∃ q os, w' = grow (w.drewN q) os := by
  have c1 := fun w => Tryd.strings_Compare a s w
  have hc : Lib.compareBytes a.data.toList s.data.toList = cmpK a s := rfl
  rw [hc] at c1
  obtain ⟨r, hr⟩ : ∃ r, cmpK a s = r := ⟨_, rfl⟩
  rw [hr] at c1 ⊢
  have C1 := Lib.hid c1
  clear c1 hc hr
  have h1 : Hid (∀ o : Obj, ∃ q os, w.alloc o = grow (w.drewN q) os) := Lib.hid (fun o => ⟨0, _, by rw [alloc_eq_grow]; rfl⟩)
  go_enter Tryd.func43, Tryd.ntmps43
  go_wp2_with fail
  refine (C1.out _).mono ?_
  rintro e w1 ⟨rfl, rfl⟩
  go_wp2
  go_ret
  exact ⟨rfl, h1.out _⟩
set_option maxRecDepth 100000 in
set_option maxHeartbeats 4000000 in
theorem or2_any (g : Nat) (x y : Int) (w : World) (h0 : w.cell? ⟨g, 0, none⟩ = some (.int .i64 x)) (h1 : w.cell? ⟨g, 1, none⟩ = some (.int .i64 y)) :
    Calls Tryd.prog 47 #[.slice (some ⟨g, 0, none⟩) 2 2] w fun e w' => e = .returned (.int .i64 (if x = 0 then y else x)) ∧ w' = w := by
  obtain ⟨r, hr⟩ : ∃ r, (if x = 0 then y else x) = r := ⟨_, rfl⟩
  rw [hr]
  have HR := Lib.hid hr; clear hr
  go_enter Tryd.func47, Tryd.ntmps47
  go_wp2
  go_loopw [8] (fun s8 wr => wr = w ∧ ((s8 = .int .i64 0) ∨ (s8 = .int .i64 1 ∧ x = 0) ∨ (s8 = .int .i64 2 ∧ x = 0 ∧ y = 0))) (fun s8 _ => 2 - (RowKit.intOf s8).toNat)
  case atStart => exact ⟨rfl, .inl rfl⟩
  case round =>
    obtain ⟨rfl, rfl | ⟨rfl, hx⟩ | ⟨rfl, hx, hy⟩⟩ := hrel
    · by_cases hx : x = 0
      · subst hx
        go_wp2
        exact ⟨⟨(by first | rfl | trivial), .inr (.inl ⟨by go_num, (by first | rfl | trivial)⟩)⟩, by simp [RowKit.intOf]⟩
      · have hx' : (x == 0) = false := by simpa using hx
        have hr : Hid (r = x) := Lib.hid (by rw [← HR.out, if_neg hx])
        go_wp2
        go_ret
        exact ⟨by rw [hr.out]; rfl, rfl⟩
    · subst hx
      by_cases hy : y = 0
      · subst hy
        go_wp2
        exact ⟨⟨(by first | rfl | trivial), .inr (.inr ⟨by go_num, (by first | rfl | trivial), (by first | rfl | trivial)⟩)⟩, by simp [RowKit.intOf]⟩
      · have hy' : (y == 0) = false := by simpa using hy
        have hr : Hid (r = y) := Lib.hid (by rw [← HR.out, if_pos rfl])
        go_wp2
        go_ret
        exact ⟨by rw [hr.out]; rfl, rfl⟩
    · subst hx hy
      have hr : Hid (r = 0) := Lib.hid (by rw [← HR.out, if_pos rfl])
      go_wp2
      go_ret
      exact ⟨by rw [hr.out]; rfl, rfl⟩
set_option maxRecDepth 100000 in
set_option maxHeartbeats 4000000 in
theorem more_lays (x y : Wrd) (w : World) :
    Calls Tryd.prog 35 #[.agg (wrdCell x).toArray, .agg (wrdCell y).toArray] w fun e w' => e = .returned (.int .i64 (cmpFq x y)) ∧ ∃ q os, w' = grow (w.drewN q) os := by
  obtain ⟨x1, x2⟩ := x
  obtain ⟨y1, y2⟩ := y
  show Calls Tryd.prog 35 #[.agg #[.string x1, .int .i64 x2], .agg #[.string y1, .int .i64 y2]] w _
  have c1 := fun w => Tryd.strings_Compare x1 y1 w
  have c2 := fun w => Tryd.cmp_Compare_int y2 x2 w
  have hc : Lib.compareBytes x1.data.toList y1.data.toList = cmpK x1 y1 := rfl
  rw [hc] at c1
  obtain ⟨r, hr⟩ : ∃ r, cmpFq (x1, x2) (y1, y2) = r := ⟨_, rfl⟩
  rw [hr]
  unfold cmpFq at hr
  simp only at hr
  obtain ⟨r1, hr1⟩ : ∃ r, cmpK x1 y1 = r := ⟨_, rfl⟩
  obtain ⟨r2, hr2⟩ : ∃ r, Lib.compareInt y2 x2 = r := ⟨_, rfl⟩
  rw [hr1] at c1 hr
  rw [hr2] at hr
  simp only [hr2] at c2
  have c3 := fun g w h0 h1 => or2_any g r2 r1 w h0 h1
  simp only [hr] at c3
  have C1 := Lib.hid c1; have C2 := Lib.hid c2; have C3 := Lib.hid c3
  clear c1 c2 c3 hc hr hr1 hr2
  obtain ⟨a0, a1⟩ := cells2_new w (.string x1) (.int .i64 x2) 24
  obtain ⟨W1, hW1⟩ : ∃ z, w.alloc (.cells #[.string x1, .int .i64 x2] 24) = z := ⟨_, rfl⟩
  obtain ⟨b0, b1⟩ := cells2_new W1 (.string y1) (.int .i64 y2) 24
  rw [hW1] at a0 a1
  have hb1 := bel_one W1 (.cells #[.string y1, .int .i64 y2] 24)
  have a0' := cell_keep hb1 a0; have a1' := cell_keep hb1 a1
  have hs : W1.heap.size = w.heap.size + 1 := by rw [← hW1]; simp
  obtain ⟨W2, hW2⟩ : ∃ z, W1.alloc (.cells #[.string y1, .int .i64 y2] 24) = z := ⟨_, rfl⟩
  rw [hW2] at a0' a1' b0 b1
  rw [hs] at b0 b1
  have hg : Hid (∀ q o, ∃ q' os, (W2.drewN q).alloc o = grow (w.drewN q') os) := Lib.hid (fun q o => by
    rw [← hW2, ← hW1, alloc_eq_grow, alloc_eq_grow, alloc_eq_grow, grow_grow]
    exact xgrow_more w 0 q _ _)
  have HW2 : Hid ((w.alloc (.cells #[.string x1, .int .i64 x2] 24)).alloc (.cells #[.string y1, .int .i64 y2] 24) = W2) := Lib.hid (by rw [hW1, hW2])
  clear a0 a1 hb1 hs hW1 hW2
  have hmix : Tryd.prog.follows .mixedOrders = true := by kernel_rfl
  have eg1 : ∀ args w, (callFunc 38 args).run Tryd.prog w = .ok (.enter 38 args) w := enters_of Tryd.func38 (by kernel_rfl) rfl
  have eg2 : ∀ args w, (callFunc 48 args).run Tryd.prog w = .ok (.enter 48 args) w := enters_of Tryd.func48 (by kernel_rfl) rfl
  have eg3 : ∀ args w, (callFunc 47 args).run Tryd.prog w = .ok (.enter 47 args) w := enters_of Tryd.func47 (by kernel_rfl) rfl
  go_enter Tryd.func35, Tryd.ntmps35
  go_wp2
  rw [HW2.out]
  obtain ⟨bx, hbx⟩ : ∃ z, w.heap.size = z := ⟨_, rfl⟩
  rw [hbx] at a0' a1' b0 b1 ⊢
  have d0 : W2.drew.cell? ⟨bx, 0, none⟩ = some (.string x1) := a0'
  have d1 : W2.drew.cell? ⟨bx, 1, none⟩ = some (.int .i64 x2) := a1'
  have d2 : W2.drew.cell? ⟨bx + 1, 0, none⟩ = some (.string y1) := b0
  have d3 : W2.drew.cell? ⟨bx + 1, 1, none⟩ = some (.int .i64 y2) := b1
  have hlit := cells2_new W2.drew (.int .i64 r2) (.int .i64 r1) 3
  have HLIT := Lib.hid hlit
  clear hlit
  go_region_law (first
    | (refine xstep_call2 rfl 48 (.tmp 6) (.tmp 8) 3 3 rfl eg2 (by go_simp) (by go_simp) (C2.out _) ?_; rintro e w9 ⟨rfl, e9⟩; obtain rfl := e9.symm; refine ⟨_, rfl, ?_⟩)
    | (refine xstep_call2 rfl 38 (.tmp 11) (.tmp 13) 9 9 rfl eg1 (by go_simp) (by go_simp) (C1.out _) ?_; rintro e w14 ⟨rfl, e14⟩; obtain rfl := e14.symm; refine ⟨_, rfl, ?_⟩)
    | (refine xstep_call rfl 47 (.tmp 15) 88 rfl eg3 (by go_simp) (C3.out _ _ HLIT.out.1 HLIT.out.2) ?_; rintro e w16 ⟨rfl, e16⟩; obtain rfl := e16.symm; refine ⟨_, rfl, ?_⟩))
  all_goals
    go_wp2
    go_ret
    exact ⟨rfl, hg.out 1 _⟩
end Go.Proofs.YtdlmjoijadkphaaDoor

/- slices.Clone and slices.SortFunc over words: a copy of the call's own, sorted by the library. -/
namespace Go.Proofs.YtdlmjoijadkphaaDoor
open Go.RowKit Go.Shelf Go.Lib
open Go.Sort (grow heap_grow_old putRow mapBlock onCells SWO PermIn SortedIn HoldsK flatK get_flatK size_flatK)
set_option linter.unusedSimpArgs false
set_option linter.unusedVariables false

theorem heap_sortX {w : World} {g n : Nat} {d : Array Wrd} {os : Array Obj} : w.grownBy (sortWorldK wrdCell 2 w g 0 n d os) (some g) := by
  unfold sortWorldK Go.Sort.putRowK
  refine ⟨rfl, rfl, rfl, by simp, fun k hk hne => ?_⟩
  rw [heap_grow_old _ _ (by simpa using hk)]
  have : g ≠ k := fun e => hne (by rw [e])
  simp [putRow, mapBlock, Go.Sort.ahead, Array.getElem?_modify, this]
theorem flatX_at (L : List Wrd) (j : Nat) (hj : j < L.length * 2) : ∃ x, L[j / 2]? = some x ∧ (wrdCell x)[j % 2]? = some (flatK wrdCell 2 L.toArray)[j]! := by
  have hq : j / 2 < L.length := (Nat.div_lt_iff_lt_mul (by decide)).2 hj
  have hm : j % 2 < 2 := Nat.mod_lt _ (by decide)
  refine ⟨L[j / 2], List.getElem?_eq_getElem hq, ?_⟩
  rw [get_flatK _ _ _ _ (by simpa using hj)]
  have e : L.toArray[j / 2]! = L[j / 2] := by simp [hq]
  rw [e]
  have hl : j % 2 < (wrdCell L[j / 2]).length := hm
  rw [List.getElem?_eq_getElem hl]
  simp [hl]
theorem holdsX {w : World} {g n c : Nat} {L : List Wrd} (hn : L.length = n) (h : GRuns wrdCell 2 w (.slice (some ⟨g, 0, none⟩) n c) L) (hf : ∀ j, w.frozen? ⟨g, j, none⟩ = false) : HoldsK wrdCell 2 w g 0 L.toArray := by
  intro j hj
  have hj' : j < L.length * 2 := by simpa using hj
  refine ⟨?_, hf _⟩
  obtain ⟨x, hx, hc⟩ := flatX_at L j hj'
  obtain ⟨b, o, e, _, hcell⟩ := h.cells hn (by rw [← hn]; omega)
  have e := Option.some.inj e
  simp only [Addr.mk.injEq] at e
  obtain ⟨rfl, rfl, _⟩ := e
  have h1 := hcell _ x hx _ _ hc
  rw [show 0 + j / 2 * 2 + j % 2 = 0 + j by omega] at h1
  simpa using h1
theorem runsX {w : World} {g n c : Nat} {L : List Wrd} (hn : L.length = n) (hc : n ≤ c) (hm : c ≤ maxLen) (hg : g < w.heap.size) (h : HoldsK wrdCell 2 w g 0 L.toArray) : GRuns wrdCell 2 w (.slice (some ⟨g, 0, none⟩) n c) L := by
  subst hn
  refine ⟨_, c, rfl, hc, ⟨hm, fun h => by cases h⟩, fun _ => ⟨g, 0, rfl, hg, fun j x hj i u hu => ?_⟩⟩
  have hi : i < 2 := (List.getElem?_eq_some_iff.1 hu).1
  have hjl : j < L.length := (List.getElem?_eq_some_iff.1 hj).1
  have hlt : j * 2 + i < L.length * 2 := by omega
  have h1 := (h (j * 2 + i) (by simpa using hlt)).1
  obtain ⟨x', hx', hc'⟩ := flatX_at L (j * 2 + i) hlt
  rw [show (j * 2 + i) / 2 = j by omega] at hx'
  rw [show (j * 2 + i) % 2 = i by omega] at hc'
  rw [hj] at hx'
  obtain rfl := Option.some.inj hx'
  rw [hu] at hc'
  rw [← Option.some.inj hc'] at h1
  rw [← Nat.add_assoc] at h1
  simpa using h1
theorem xsort_none (fv : Value) (w : World) : Calls Tryd.prog 34 #[.slice none 0 0, fv] w fun e w' => e = .returned (.tuple #[]) ∧ w' = w :=
  AnyF.slices_SortFunc_none Tryd.sortW none 0 fv w
/-- slices.SortFunc over a row of the call's own. -/
theorem xsort_own (f : Nat) (cf : Wrd → Wrd → Int) (sw : SWO (ltOf cf)) (eg : ∀ args w, (callFunc f args).run Tryd.prog w = .ok (.enter f args) w)
    (hlay : ∀ x y w, Calls Tryd.prog f #[.agg (wrdCell x).toArray, .agg (wrdCell y).toArray] w fun e w' => e = .returned (.int .i64 (cf x y)) ∧ ∃ q os, w' = grow (w.drewN q) os)
    (L : List Wrd) (n g cap base : Nat) (w : World) (hn : L.length = n) (hown : w.ownsRow base 24 2 (.slice (some ⟨g, 0, none⟩) n cap) n (gCells wrdCell L)) (hl : n ≤ 2000000) (hbase : base ≤ w.heap.size) :
    Calls Tryd.prog 34 #[.slice (some ⟨g, 0, none⟩) n cap, .func (.func f) #[] #[]] w fun e w' => e = .returned (.tuple #[]) ∧
      ∃ d : List Wrd, d.Perm L ∧ d.Pairwise (fun x y => ltOf cf y x = false) ∧ WRuns w' (.slice (some ⟨g, 0, none⟩) n cap) d ∧ Below base w w' := by
  have hg := GRuns.of_own wrd_ln hn hown
  rcases hown.2 with ⟨e, _⟩ | ⟨g', cap', cur, e0, hb, hh, h1, h2, h3, h4⟩
  · cases e
  simp only [Value.slice.injEq, Option.some.injEq, Addr.mk.injEq] at e0
  obtain ⟨⟨rfl, _⟩, _, rfl⟩ := e0
  have hgl : g < w.heap.size := (Array.getElem?_eq_some_iff.1 hh).1
  have hH := holdsX hn hg (own_thaw hown)
  have hs : L.toArray.size = n := by simpa using hn
  have c := AnyQ.slices_SortFunc Tryd.sortW 2 Tryd.isAgg24 Tryd.sizeOf24 wrdCell (fun _ => rfl) wrd_one cf sw f #[] g 0 cap L.toArray w eg (fun _ _ _ _ x y => hlay x y _) hH hgl (by rw [hs]; omega)
  rw [hs] at c
  refine c.mono ?_
  rintro e w' ⟨rfl, d', q, os, hp, hso, rfl⟩
  obtain ⟨hp1, _, hp3⟩ := hp
  have hds : d'.size = n := by rw [hp1]; exact hs
  have e1 : d'.extract 0 n = d' := by rw [← hds]; simp
  have e2 : L.toArray.extract 0 n = L.toArray := by rw [← hs]; simp
  rw [e1, e2] at hp3
  have hdn : d'.toList.length = n := by simpa using hds
  have hH' := holdsK_sortWorldK_c wrdCell 2 w g 0 L.toArray d' q os hH hgl (by rw [hds, hs])
  have hr := runsX (L := d'.toList) hdn h1 h2 (Nat.lt_of_lt_of_le hgl (size_sortWorldK_c wrdCell 2 w g 0 q d' os)) (by simpa using hH')
  refine ⟨rfl, d'.toList, by simpa using hp3, ?_, hr, (Below.refl base w).grown heap_sortX hbase (fun k hk => by cases hk; exact hb)⟩
  rw [List.pairwise_iff_getElem]
  intro i j hi hj hij
  have := hso i j (Nat.zero_le _) hij (by rw [← hdn]; exact hj)
  have ei : d'[i]! = d'.toList[i] := by
    have : i < d'.size := by simpa using hi
    simp [this]
  have ej : d'[j]! = d'.toList[j] := by
    have : j < d'.size := by simpa using hj
    simp [this]
  rw [ei, ej] at this
  exact this
set_option maxRecDepth 100000 in
set_option maxHeartbeats 4000000 in
/-- A copy, in memory of the call's own. -/
theorem xclone_words (A : Option Addr) (n c : Nat) (l : List Wrd) (w : World) (hn : l.length = n) (hu : WRuns w (.slice A n c) l) (hl : n ≤ 2000000) :
    Calls Tryd.prog 33 #[.slice A n c] w fun e w' => ∃ v, e = .returned v ∧ w'.ownsRow w.heap.size 24 2 v n (gCells wrdCell l) ∧ Below w.heap.size w w' := by
  have q22 : ∀ (w : World) (a : Option Addr) (n c n' c' : Nat), (binOp .eql 22 (.slice a n c) (.slice none n' c')).run Tryd.prog w = .ok (.bool a.isNone) w := fun w a n c n' c' => Lib.run_eql_slice_nil w _ _ a n c n' c' Tryd.underlying22
  cases A with
  | none =>
    have h0 : n = 0 := by
      obtain ⟨A', c', e, hc, ⟨_, h0⟩, _⟩ := hu
      obtain ⟨e1, e2, e3⟩ := Value.slice.inj e
      have := h0 e1.symm
      omega
    subst h0
    have e0 : l = [] := List.eq_nil_of_length_eq_zero hn
    subst e0
    clear hu hn hl
    go_enter Tryd.func33, Tryd.ntmps33
    go_wp2
    go_ret
    exact ⟨_, rfl, World.ownsRow_nil _ _ _ _, Below.refl _ _⟩
  | some ad =>
    have hba := bel_one w (.cells #[] 24)
    obtain ⟨v7, w7, hrun7, hown7, hg7, hat7⟩ := append_many (P := Tryd.prog) wrd_ln wrd_one info_wrd rfl (by decide) (by decide) Tryd.underlying22 _ w.heap.size _ 0 [] (own_litW w _ (Nat.le_refl _)) _ l (hu.below hba) (by simp) (by rw [hn]; omega)
    have hb7 : Below w.heap.size w w7 := hba.grown hg7 (by simp) (fun k hk => by simp [Value.ownBlock] at hk; omega)
    rw [hn] at hown7
    have H7 := Lib.hid hrun7; have HO := Lib.hid hown7; have HB := Lib.hid hb7
    clear hrun7 hown7 hg7 hat7 hb7 hba hu
    go_enter Tryd.func33, Tryd.ntmps33
    go_wp2_with (at_builtin; refine wpList_append_run (.tmp 5) (.tmp 6) 22 _ _ _ _ H7.out rfl rfl rfl rfl ?_)
    go_ret
    exact ⟨_, rfl, by simpa using HO.out, HB.out⟩
end Go.Proofs.YtdlmjoijadkphaaDoor

/- errataref09.Check, all, Is, Find, Same: what each answers. -/
namespace Go.Proofs.YtdlmjoijadkphaaDoor
open Go.RowKit Go.Shelf
set_option linter.unusedSimpArgs false
set_option linter.unusedVariables false

theorem wchk_size (x : Wrd) (h : x.1.size ≤ 2000000) : x.1.size * 4 ≤ 140737488355328 := by omega
set_option maxRecDepth 100000 in
set_option maxHeartbeats 4000000 in
theorem refCheck9_any (a : ByteArray) (N : Int) (w : World) (ha : a.size ≤ 2000000) :
    Calls Tryd.prog 16 #[.agg #[.string a, .int .i64 N]] w fun e w' => e = .returned (.int .i64 (wchk (a, N))) ∧ Below w.heap.size w w' := by
  have c5 := fun w => refToken_any a w (by omega)
  have hR : wchk (a, N) = if tokErr a.data.toList = 0 then (if N < 1 ∨ 1073741824 < N then 2 else 0) else tokErr a.data.toList := rfl
  obtain ⟨res, hres⟩ : ∃ r, wchk (a, N) = r := ⟨_, rfl⟩
  obtain ⟨er, her⟩ : ∃ r, tokErr a.data.toList = r := ⟨_, rfl⟩
  obtain ⟨nr, hnr⟩ : ∃ r, (tokRunes a.data.toList).length = r := ⟨_, rfl⟩
  rw [hres] at hR ⊢
  rw [her] at hR
  simp only [her, hnr] at c5
  obtain ⟨a0, a1⟩ := cells2_new w (.string a) (.int .i64 N) 24
  have hal := bel_one w (.cells #[.string a, .int .i64 N] 24)
  have hlt : w.heap.size < (w.alloc (.cells #[.string a, .int .i64 N] 24)).heap.size := by simp
  obtain ⟨W1, hW1⟩ : ∃ z, w.alloc (.cells #[.string a, .int .i64 N] 24) = z := ⟨_, rfl⟩
  rw [hW1] at a0 a1 hal hlt
  obtain ⟨bx, hbx⟩ : ∃ z, w.heap.size = z := ⟨_, rfl⟩
  rw [hbx] at a0 a1 hlt
  have HW1 := Lib.hid hW1; have HBX := Lib.hid hbx; have HAL := Lib.hid hal; have C5 := Lib.hid c5; have HR := Lib.hid hR
  clear hW1 hbx hal c5 hR hres her hnr
  go_enter Tryd.func16, Tryd.ntmps16
  go_wp2_with fail
  rw [HW1.out, HBX.out]
  refine (C5.out _).mono ?_
  rintro e w2 ⟨A, c, rfl, _, b2⟩
  have d2 := (b2.cell (p := ⟨bx, 1, none⟩) hlt).trans a1
  have B2 : Hid (Below w.heap.size w w2) := Lib.hid (HAL.out.trans (b2.mono HAL.out.size))
  clear b2 a0 a1
  by_cases h0 : er = 0
  · subst h0
    by_cases h1 : N < 1
    · have hr : Hid (res = 2) := Lib.hid (by rw [HR.out, if_pos (by first | rfl | trivial), if_pos (.inl h1)])
      go_wp2
      go_ret
      exact ⟨by rw [hr.out]; rfl, B2.out⟩
    · by_cases h2 : 1073741824 < N
      · have hr : Hid (res = 2) := Lib.hid (by rw [HR.out, if_pos (by first | rfl | trivial), if_pos (.inr h2)])
        go_wp2
        go_ret
        exact ⟨by rw [hr.out]; rfl, B2.out⟩
      · have hr : Hid (res = 0) := Lib.hid (by rw [HR.out, if_pos (by first | rfl | trivial), if_neg (by omega)])
        go_wp2
        go_ret
        exact ⟨by rw [hr.out]; rfl, B2.out⟩
  · have h0' : (er == 0) = false := by simpa using h0
    have hr : Hid (res = er) := Lib.hid (by rw [HR.out, if_neg h0])
    go_wp2
    go_ret
    exact ⟨by rw [hr.out]; rfl, B2.out⟩
set_option maxRecDepth 100000 in
set_option maxHeartbeats 8000000 in
theorem refAll9_any (u : Value) (l : List Wrd) (w : World) (hu : WRuns w u l) (hl : l.length ≤ 2000000) (hz : szW l) :
    Calls Tryd.prog 28 #[u] w fun e w' => e = .returned (.int .i64 (wall l)) ∧ Below w.heap.size w w' := by
  obtain ⟨A, c, e⟩ := hu.slice
  subst e
  have HU := Lib.hid hu; clear hu
  obtain ⟨n, hn⟩ : ∃ n, l.length = n := ⟨_, rfl⟩
  obtain ⟨res, hres⟩ : ∃ r, wall l = r := ⟨_, rfl⟩
  rw [hres]
  have HT := Lib.hid hres; clear hres
  rw [hn] at hl HU ⊢
  have HN := Lib.hid hn; clear hn
  have HZ := Lib.hid hz; clear hz
  have C5 := Lib.hid refCheck9_any
  go_enter Tryd.func28, Tryd.ntmps28
  go_wp2
  go_loopw [8] (fun s8 wr => ∃ k : Nat, k ≤ n ∧ s8 = .int .i64 k ∧ Hid (wall (l.take k) = 0) ∧ Hid (Below w.heap.size w wr)) (fun s8 _ => n - (RowKit.intOf s8).toNat)
  case atStart => exact ⟨0, Nat.zero_le _, rfl, Lib.hid rfl, Lib.hid (Below.refl _ _)⟩
  case round =>
    obtain ⟨k, hkn, rfl, HC, BW⟩ := hrel
    by_cases hk : k < n
    · have k1 : (k : Int) < (n : Int) := by omega
      obtain ⟨⟨p1, p2⟩, hp⟩ : ∃ p, l[k]? = some p := ⟨_, List.getElem?_eq_getElem (by rw [HN.out]; exact hk)⟩
      obtain ⟨b, o, rfl, _, hc⟩ := (HU.out.below BW.out).cells HN.out (by omega)
      obtain ⟨g0, g1⟩ := wrd_cells hc hp
      simp only at g0 g1
      have hz1 := HZ.out _ (List.mem_of_getElem? hp)
      have hch := wall_take k _ hp HC.out
      simp only at hz1
      obtain ⟨er, her⟩ : ∃ z, wchk (p1, p2) = z := ⟨_, rfl⟩
      rw [her] at hch
      have HCH := Lib.hid hch
      have hal : Hid (Below w.heap.size w (wr.alloc (.cells #[.string p1, .int .i64 p2] 24))) := Lib.hid (BW.out.alloc BW.out.size _)
      have c5 := C5.out p1 p2 (wr.alloc (.cells #[.string p1, .int .i64 p2] 24)) hz1
      rw [her] at c5
      have CC := Lib.hid c5
      clear hc hp hch c5 her
      go_wp2_with fail
      refine CC.out.mono ?_
      rintro e w5 ⟨rfl, b5⟩
      have B5 : Hid (Below w.heap.size w w5) := Lib.hid (hal.out.trans (b5.mono hal.out.size))
      clear b5
      by_cases h0 : er = 0
      · subst h0
        go_wp2
        exact ⟨⟨k + 1, by omega, by go_num, Lib.hid (HCH.out.1 (by first | rfl | trivial)), B5⟩, by simp [RowKit.intOf]; omega⟩
      · have h0' : (er == 0) = false := by simpa using h0
        have hr : Hid (res = er) := Lib.hid (by rw [← HT.out]; exact HCH.out.2 h0)
        go_wp2
        go_ret
        exact ⟨by rw [hr.out]; rfl, B5.out⟩
    · obtain rfl : k = n := by omega
      have hr : Hid (res = 0) := Lib.hid (by have := HC.out; rw [← HN.out, List.take_length] at this; rw [← HT.out]; exact this)
      clear HC
      go_wp2
      go_ret
      exact ⟨by rw [hr.out]; rfl, BW.out⟩
set_option maxRecDepth 100000 in
set_option maxHeartbeats 8000000 in
theorem refIs9_any (u : Value) (l : List Wrd) (w : World) (hu : WRuns w u l) (hl : l.length ≤ 2000000) (hz : szW l) :
    Calls Tryd.prog 14 #[u] w fun e w' => e = .returned (.int .i64 (wisS l)) ∧ Below w.heap.size w w' := by
  have ca := refAll9_any u l w hu hl hz
  obtain ⟨A, c, e⟩ := hu.slice
  subst e
  have HU := Lib.hid hu; clear hu
  obtain ⟨n, hn⟩ : ∃ n, l.length = n := ⟨_, rfl⟩
  have hT : wisS l = if wall l = 0 then (if ordW l then (if 65536 < n then 6 else 0) else 7) else wall l := by rw [wisS, hn]
  obtain ⟨res, hres⟩ : ∃ r, wisS l = r := ⟨_, rfl⟩
  rw [hres] at hT ⊢
  have HT := Lib.hid hT; clear hT hres
  rw [hn] at hl HU ca ⊢
  have HN := Lib.hid hn; clear hn hz
  obtain ⟨ra, hra⟩ : ∃ z, wall l = z := ⟨_, rfl⟩
  rw [hra] at ca
  have HRA := Lib.hid hra; have CA := Lib.hid ca
  clear hra ca
  go_enter Tryd.func14, Tryd.ntmps14
  go_wp2_with fail
  refine CA.out.mono ?_
  rintro e w1 ⟨rfl, b1⟩
  have BW := Lib.hid b1; clear b1
  by_cases h00 : ra = 0
  · subst h00
    have HC0 : Hid (wall l = 0) := Lib.hid HRA.out
    go_wp2
    go_loopw [12] (fun s18 wr' => ∃ j : Nat, j ≤ n ∧ s18 = .int .i64 j ∧ Hid (ordW (l.take j) = true) ∧ Hid (Below w.heap.size w wr')) (fun s18 _ => n - (RowKit.intOf s18).toNat)
    case atStart => exact ⟨0, Nat.zero_le _, rfl, Lib.hid rfl, BW⟩
    case round =>
      obtain ⟨j, hjk, rfl, HO, BW2⟩ := hrel
      by_cases hj : j < n
      · have j1 : (j : Int) < (n : Int) := by omega
        rcases Nat.eq_zero_or_pos j with h0 | h0
        · subst h0
          go_wp2
          go_quiet (fail)
          go_wp2
          exact ⟨⟨1, by omega, by go_num, Lib.hid (ordW_one l), Lib.hid (below_draws BW2.out _)⟩, by simp [RowKit.intOf]; omega⟩
        · obtain ⟨i, hi⟩ : ∃ i : Nat, (j : Int) - 1 = (i : Int) := ⟨j - 1, by omega⟩
          have ei : j = i + 1 := by omega
          have EI := Lib.hid ei
          obtain ⟨⟨y1, y2⟩, hy⟩ : ∃ p, l[i]? = some p := ⟨_, List.getElem?_eq_getElem (by rw [HN.out]; omega)⟩
          obtain ⟨⟨x1, x2⟩, hx⟩ : ∃ p, l[j]? = some p := ⟨_, List.getElem?_eq_getElem (by rw [HN.out]; omega)⟩
          have RW := Lib.hid (HU.out.below BW2.out)
          obtain ⟨b, o, rfl, hblt, hc⟩ := RW.out.cells HN.out (by omega)
          obtain ⟨g0, g1⟩ := wrd_cells hc hy
          obtain ⟨g3, g4⟩ := wrd_cells hc hx
          simp only at g0 g1 g3 g4
          have hor := ordW_take i (y1, y2) (x1, x2) hy (by rw [← ei]; exact hx) (by rw [← ei]; exact HO.out)
          obtain ⟨le, hle⟩ : ∃ z, ltK y1 x1 = z := ⟨_, rfl⟩
          simp only [hle] at hor
          unfold ltK at hle
          have HOR := Lib.hid hor
          clear hc hy hx hor ei HO
          have i0 : (0 : Int) < (j : Int) := by omega
          have i1 : (i : Int) < (n : Int) := by omega
          have hwr : IntKind.i64.wrap ((j : Int) - 1) = (i : Int) := by rw [IntKind.wrap_i64]; omega
          have hwi : IntKind.i64.wrap (i : Int) = (i : Int) := by rw [IntKind.wrap_i64]; omega
          have i2 : (0 : Int) ≤ (i : Int) := by omega
          cases le
          · have hr : Hid (res = 7) := Lib.hid (by rw [HT.out, if_pos HC0.out, if_neg (by rw [HOR.out.2 rfl]; simp)])
            go_wp2
            go_quiet (fail)
            go_wp2
            go_ret
            exact ⟨by rw [hr.out]; rfl, below_draws BW2.out _⟩
          · go_wp2
            go_quiet (fail)
            go_wp2
            exact ⟨⟨j + 1, by omega, by go_num, Lib.hid (by have := HOR.out.1 (by first | rfl | trivial); rwa [← EI.out] at this), Lib.hid (below_draws BW2.out _)⟩, by simp [RowKit.intOf]; omega⟩
      · obtain rfl : j = n := by omega
        have HO0 : Hid (ordW l = true) := Lib.hid (by have := HO.out; rwa [← HN.out, List.take_length] at this)
        clear HO BW
        by_cases hbig : 65536 < j
        · have hb1 : (65536 : Int) < (j : Int) := by omega
          have hr : Hid (res = 6) := Lib.hid (by rw [HT.out, if_pos HC0.out, if_pos HO0.out, if_pos hbig])
          go_wp2
          go_ret
          exact ⟨by rw [hr.out]; rfl, BW2.out⟩
        · have hb1 : ¬ (65536 : Int) < (j : Int) := by omega
          have hr : Hid (res = 0) := Lib.hid (by rw [HT.out, if_pos HC0.out, if_pos HO0.out, if_neg hbig])
          go_wp2
          go_ret
          exact ⟨by rw [hr.out]; rfl, BW2.out⟩
  · have h00' : (ra == 0) = false := by simpa using h00
    have hr : Hid (res = ra) := Lib.hid (by rw [HT.out, HRA.out, if_neg h00])
    go_wp2
    go_ret
    exact ⟨by rw [hr.out]; rfl, BW.out⟩
theorem wtake_all {α : Type} (x y : List α) (h : x.length = y.length) (ht : x.take x.length = y.take x.length) : x = y := by
  rw [List.take_length, h, List.take_length] at ht; exact ht
set_option maxRecDepth 100000 in
set_option maxHeartbeats 4000000 in
theorem refSame9_any (u v : Value) (x y : List Wrd) (w : World) (hx : WRuns w u x) (hy : WRuns w v y) :
    Calls Tryd.prog 17 #[u, v] w fun e w' => e = .returned (.bool (decide (x = y))) ∧ Drawn w w' := by
  obtain ⟨A, c, rfl, hxc, ⟨hxm, _⟩, hxx⟩ := hx
  obtain ⟨B, d, rfl, hyc, ⟨hym, _⟩, hyy⟩ := hy
  unfold maxLen at hxm hym
  obtain ⟨n, hn⟩ : ∃ n, x.length = n := ⟨_, rfl⟩
  obtain ⟨m, hm⟩ : ∃ m, y.length = m := ⟨_, rfl⟩
  obtain ⟨res, hr⟩ : ∃ r, decide (x = y) = r := ⟨_, rfl⟩
  rw [hr]
  rw [hn] at hxc hxx ⊢
  rw [hm] at hyc hyy ⊢
  have Hn := Lib.hid hn; have Hm := Lib.hid hm; have HR := Lib.hid hr
  have HX := Lib.hid hxx; have HY := Lib.hid hyy
  clear hn hm hr hxx hyy
  by_cases hnm : n = m
  · subst hnm
    go_enter Tryd.func17, Tryd.ntmps17
    go_wp2
    go_loopg [13] n (fun g s13 wr => ∃ k q : Nat, k ≤ n ∧ n - k ≤ g ∧ s13 = .int .i64 k ∧ wr = w.drewN q ∧ Hid (x.take k = y.take k))
    case atStart => exact ⟨0, 0, Nat.zero_le _, by omega, rfl, rfl, Lib.hid (by simp)⟩
    case round =>
      obtain ⟨k, q, hkn, hg, rfl, rfl, HC⟩ := hrel
      by_cases h1 : k < n
      · obtain ⟨b, o, rfl, hb, hc1⟩ := HX.out (by omega)
        obtain ⟨b', o', rfl, hb', hc2⟩ := HY.out (by omega)
        obtain ⟨⟨p1, p2⟩, hp⟩ : ∃ p, x[k]? = some p := ⟨_, List.getElem?_eq_getElem (by rw [Hn.out]; exact h1)⟩
        obtain ⟨⟨q1, q2⟩, hq⟩ : ∃ p, y[k]? = some p := ⟨_, List.getElem?_eq_getElem (by rw [Hm.out]; exact h1)⟩
        obtain ⟨e1, e2⟩ := wrd_cells hc1 hp
        obtain ⟨f1, f2⟩ := wrd_cells hc2 hq
        simp only at e1 e2 f1 f2
        clear hc1 hc2
        have NE : Hid ((p1, p2) ≠ (q1, q2) → x ≠ y) := Lib.hid (fun hne e => hne (by rw [e, hq] at hp; exact (Option.some.inj hp).symm))
        have ST : Hid ((p1, p2) = (q1, q2) → x.take (k + 1) = y.take (k + 1)) := Lib.hid (fun he => by rw [List.take_add_one, List.take_add_one, HC.out, hp, hq, he])
        clear hp hq
        have i1 : (k : Int) < (n : Int) := by omega
        have hcs : (p1 = q1 ∧ p2 = q2) ∨ (p1.toList == q1.toList) = false ∨ ((p1.toList == q1.toList) = true ∧ (p2 == q2) = false) := by
          by_cases h1 : p1.toList = q1.toList
          · by_cases h2 : p2 = q2
            · exact .inl ⟨key_ext (by rw [← Lib.toList_data, ← Lib.toList_data]; exact h1), h2⟩
            · exact .inr (.inr ⟨by simpa using h1, by simpa using h2⟩)
          · exact .inr (.inl (by simpa using h1))
        rcases hcs with ⟨rfl, rfl⟩ | h1 | ⟨h1, h2⟩
        · go_wp2
          go_quiet (fail)
          go_wp2
          go_roundg (n - (k + 1))
          case measure => omega
          case rel => exact ⟨k + 1, _, by omega, by omega, by go_num, by first | rfl | rw [World.drewN_drewN], Lib.hid (ST.out (by first | rfl | trivial))⟩
        all_goals
          have hno : x ≠ y := NE.out (by
            intro e
            simp only [Prod.mk.injEq] at e
            obtain ⟨rfl, rfl⟩ := e
            simp at *)
          have HNO := Lib.hid hno
          clear hno
          go_wp2
          go_quiet (fail)
          go_wp2
          go_ret
          exact ⟨ret_bool (by rw [← HR.out]; symm; simpa using HNO.out), by first | exact Drawn.of2 _ _ _ | exact Drawn.of3 _ _ _ _⟩
      · obtain rfl : n = k := by omega
        go_wp2
        go_ret
        exact ⟨ret_bool (by rw [← HR.out, decide_eq_true (wtake_all x y (by rw [Hn.out, Hm.out]) (by rw [Hn.out]; exact HC.out))]), Drawn.of _ _⟩
  · have h1 : ((n : Int) == (m : Int)) = false := by simp; omega
    go_enter Tryd.func17, Tryd.ntmps17
    go_wp2
    go_ret
    exact ⟨ret_bool (by rw [← HR.out]; symm; rw [decide_eq_false_iff_not]; rintro rfl; exact hnm (Hn.out.symm.trans Hm.out)), Drawn.refl _⟩
end Go.Proofs.YtdlmjoijadkphaaDoor

