/- The map of states that are led to: what it reads as. -/
import Derived.Test.YtnjhbblhlgpgdaaDoorPk19
import Derived.Test.YtnjhbblhlgpgdaaDoorYMap
namespace Go.Proofs.YtnjhbblhlgpgdaaDoor
open Go.RowKit Go.Shelf
set_option linter.unusedSimpArgs false
set_option linter.unusedVariables false

theorem num_keyed : Maps.Keyed Tryd.prog 3 := Maps.int_keyed Tryd.underlying3
def keyN (n : Nat) : Lit := .int .i64 (n : Int)
theorem keyN_inj {a b : Nat} (h : keyN a = keyN b) : a = b := by
  unfold keyN at h
  simp only [Lit.int.injEq, true_and] at h
  omega
theorem keyOf_num {n : Nat} (h : n ≤ 1000000000) : keyOf Tryd.prog 3 (.int .i64 (n : Int)) = some (keyN n) := Maps.keyOf_int_mk Tryd.underlying3 (by
  show (decide (IntKind.i64.min ≤ (n : Int)) && decide ((n : Int) ≤ IntKind.i64.max)) = true
  rw [Bool.and_eq_true, decide_eq_true_eq, decide_eq_true_eq]
  have e1 : IntKind.i64.min = -9223372036854775808 := by decide
  have e2 : IntKind.i64.max = 9223372036854775807 := by decide
  omega)
def addN (T : List Nat) (k : Nat) : List Nat := if k ∈ T then T else T ++ [k]
theorem mem_addN {T : List Nat} {k q : Nat} : q ∈ addN T k ↔ q ∈ T ∨ q = k := by
  unfold addN
  split
  · rename_i h
    constructor
    · exact .inl
    · rintro (h' | rfl)
      · exact h'
      · exact h
  · simp
abbrev LedMap (w : World) (m n : Nat) (D : DataW Unit) : Prop := w.ownsMap Tryd.prog 3 (plainElem Tryd.prog 4) m n D
structure ViewN (D : DataW Unit) (T : List Nat) : Prop where
  nd : T.Nodup
  has : ∀ kl, Maps.has D kl = true → ∃ k ∈ T, kl = keyN k
  all : ∀ k ∈ T, Maps.has D (keyN k) = true
  size : Maps.size D = T.length
theorem ViewN.none_ : ViewN (.map []) [] := ⟨List.nodup_nil, (fun kl h => absurd h (by rw [show Maps.has (.map []) kl = false from rfl]; exact Bool.false_ne_true)), fun k h => absurd h List.not_mem_nil, rfl⟩
theorem ViewN.put {D : DataW Unit} {T : List Nat} (h : ViewN D T) (hT : Maps.Tidy D) (k : Nat) : ViewN (D.put (keyN k) (.lit (.bool true))) (addN T k) where
  nd := by
    unfold addN
    split
    · exact h.nd
    · rename_i hk
      rw [List.nodup_append]
      refine ⟨h.nd, by simp, fun a ha b hb e => ?_⟩
      obtain rfl := List.mem_singleton.1 hb
      exact hk (e ▸ ha)
  has kl hk := by
    by_cases e : kl = keyN k
    · exact ⟨k, mem_addN.2 (.inr rfl), e⟩
    · rw [Maps.has_put_other e] at hk
      obtain ⟨q, hq, e2⟩ := h.has kl hk
      exact ⟨q, mem_addN.2 (.inl hq), e2⟩
  all q hq := by
    by_cases e : keyN q = keyN k
    · rw [e]; exact Maps.has_put_same hT.isMap (show WideAt.IsKeyLit (keyN k) from trivial) _
    · rw [Maps.has_put_other e]
      rcases mem_addN.1 hq with hq | rfl
      · exact h.all q hq
      · exact absurd rfl e
  size := by
    rw [Maps.size_put hT, h.size]
    unfold addN
    by_cases hk : k ∈ T
    · rw [if_pos (h.all k hk), if_pos hk]
    · rw [if_neg hk, if_neg, List.length_append]
      · rfl
      · intro hh
        obtain ⟨q, hq, e⟩ := h.has _ hh
        rw [keyN_inj e] at hk
        exact hk hq
theorem LedMap.made (w : World) : LedMap (w.alloc (.map #[] 0)) w.heap.size 0 (.map []) := World.ownsMap_made w Tryd.prog 3 (plainElem Tryd.prog 4)
theorem LedMap.set {w : World} {mb n : Nat} {D : DataW Unit} {T : List Nat} (h : LedMap w mb n D) (hv : ViewN D T) (hn : n ≤ 100000000) {k : Nat} (hk : k ≤ 1000000000) :
    ∃ w' D', (Instr.mapUpdate 71 (.map (some mb)) (.int .i64 (k : Int)) (.bool true)).run Tryd.prog w = .ok () w' ∧ LedMap w' mb (n + 1) D' ∧ ViewN D' (addN T k) ∧ w.grownBy w' (some mb) := by
  obtain ⟨w', hrun, h1, h2⟩ := h.update (t := 71) (e := 4) num_keyed Tryd.underlying71 (by unfold maxLen; omega) (keyOf_num hk) (plainElem_bool Tryd.underlying4 true)
  exact ⟨w', _, hrun, h1, hv.put (h.tidy num_keyed) k, h2⟩
/-- Each state but the first is led to; all that are led to are states. -/
theorem led_all {W : Rst} {T : List Nat} (hn : T.Nodup) (h : ∀ q, q ∈ T ↔ q = 0 ∨ ∃ x ∈ staQ W, ∃ e ∈ outE (staQ W) x, e.2 = q) : T.length = (staQ W).length := by
  have he : ∀ x e, e ∈ outE (staQ W) x → ∃ r ∈ hdsR x, e = (r, (staQ W).idxOf (behR x r)) := fun x e he => by
    unfold outE edE at he
    rw [List.map_map] at he
    obtain ⟨r, hr, rfl⟩ := List.mem_map.1 he
    exact ⟨r, hr, rfl⟩
  have hl := staQ_len W
  refine Nat.le_antisymm ?_ ?_
  · have := nodup_leK (l := T) (m := List.range (staQ W).length) hn (fun q hq => by
      rw [List.mem_range]
      rcases (h q).1 hq with rfl | ⟨x, hx, e, hee, rfl⟩
      · exact hl
      · obtain ⟨r, hr, rfl⟩ := he x e hee
        exact (staQ_on hx hr).2)
    simpa using this
  · have := nodup_leK (l := List.range (staQ W).length) (m := T) List.nodup_range (fun q hq => by
      rw [List.mem_range] at hq
      refine (h q).2 ?_
      by_cases h0 : q = 0
      · exact .inl h0
      · right
        have hx := List.getElem_mem hq
        have hne : (staQ W)[q] ≠ W := fun e => by
          have h1 := (List.getElem?_eq_some_iff.2 ⟨hq, e⟩)
          have h2 := staQ_zero W
          obtain ⟨h3, h4⟩ := List.getElem?_eq_some_iff.1 h2
          have h5 := List.Nodup.idxOf_getElem (staQ_nodup W) q hq
          have h6 := List.Nodup.idxOf_getElem (staQ_nodup W) 0 h3
          rw [e] at h5; rw [h4] at h6
          omega
        obtain ⟨y, r, hy, hr, e⟩ := staQ_led hx hne
        refine ⟨y, hy, (r, (staQ W).idxOf (behR y r)), ?_, ?_⟩
        · unfold outE edE
          rw [List.map_map]
          exact List.mem_map.2 ⟨r, hr, rfl⟩
        · show (staQ W).idxOf (behR y r) = q
          rw [e]
          exact List.Nodup.idxOf_getElem (staQ_nodup W) _ _)
    simpa using this
def ledL (l : List OEd) : List Nat := l.foldl (fun T e => addN T e.2) [0]
theorem ledL_snoc (l : List OEd) (e : OEd) : ledL (l ++ [e]) = addN (ledL l) e.2 := by unfold ledL; rw [List.foldl_append]; rfl
theorem ledL_mem {q : Nat} : ∀ l : List OEd, q ∈ ledL l ↔ q = 0 ∨ ∃ e ∈ l, e.2 = q := by
  have h : ∀ (l : List OEd) (T : List Nat), q ∈ l.foldl (fun T e => addN T e.2) T ↔ q ∈ T ∨ ∃ e ∈ l, e.2 = q := by
    intro l
    induction l with
    | nil => intro T; simp
    | cons a l ih =>
      intro T
      rw [List.foldl_cons, ih, mem_addN]
      simp only [List.mem_cons, exists_eq_or_imp]
      constructor
      · rintro ((h | h) | h)
        · exact .inl h
        · exact .inr (.inl h.symm)
        · exact .inr (.inr h)
      · rintro (h | h | h)
        · exact .inl (.inl h)
        · exact .inl (.inr h.symm)
        · exact .inr h
  intro l
  unfold ledL
  rw [h]
  simp
def oeK (Q : List Rst) (i : Nat) : List OEd := (Q.take i).flatMap (outE Q)
theorem oeK_zero (Q : List Rst) : oeK Q 0 = [] := by simp [oeK]
theorem oeK_succ {Q : List Rst} {i : Nat} {x : Rst} (h : Q[i]? = some x) : oeK Q (i + 1) = oeK Q i ++ outE Q x := by
  unfold oeK
  rw [List.take_add_one, h]
  simp
theorem oeK_len (Q : List Rst) (i : Nat) : (oeK Q i).length = (edK Q i).length := by
  unfold oeK edK outE
  generalize Q.take i = l
  induction l with
  | nil => rfl
  | cons a l ih => simp only [List.flatMap_cons, List.length_append, List.length_map, ih]
/-- How the map of what is led to lies: it holds what these edges lead to, and the first. -/
def LedAt (w : World) (mb : Nat) (l : List OEd) : Prop := ∃ D, LedMap w mb (1 + l.length) D ∧ ViewN D (ledL l)
theorem LedAt.first (w : World) : ∃ w', (Instr.mapUpdate 71 (.map (some w.heap.size)) (.int .i64 0) (.bool true)).run Tryd.prog (w.alloc (.map #[] 0)) = .ok () w' ∧ LedAt w' w.heap.size [] ∧ Below w.heap.size w w' := by
  obtain ⟨w', D', h1, h2, h3, h4⟩ := LedMap.set (LedMap.made w) ViewN.none_ (by omega) (k := 0) (by omega)
  refine ⟨w', h1, ⟨D', h2, h3⟩, ?_⟩
  exact (bel_one w (.map #[] 0)).grown h4 (bel_one w (.map #[] 0)).size (fun k hk => by cases hk; exact Nat.le_refl _)
theorem LedAt.set {w : World} {mb : Nat} {l : List OEd} (h : LedAt w mb l) (hn : l.length ≤ 90000000) (e : OEd) (hk : e.2 ≤ 1000000000) :
    ∃ w', (Instr.mapUpdate 71 (.map (some mb)) (.int .i64 (e.2 : Int)) (.bool true)).run Tryd.prog w = .ok () w' ∧ LedAt w' mb (l ++ [e]) ∧ w.grownBy w' (some mb) := by
  obtain ⟨D, h1, h2⟩ := h
  obtain ⟨w', D', k1, k2, k3, k4⟩ := h1.set h2 (by omega) hk
  refine ⟨w', k1, ⟨D', ?_, ?_⟩, k4⟩
  · rw [List.length_append, List.length_singleton, ← Nat.add_assoc]; exact k2
  · rw [ledL_snoc]; exact k3
theorem LedAt.alloc {w : World} {mb : Nat} {l : List OEd} (h : LedAt w mb l) (o : Obj) : LedAt (w.alloc o) mb l := by
  obtain ⟨D, h1, h2⟩ := h
  exact ⟨D, World.ownsMap.alloc h1 o, h2⟩
theorem LedAt.below {w w' : World} {mb : Nat} {l : List OEd} (h : LedAt w mb l) (hb : Below w.heap.size w w') : LedAt w' mb l := by
  obtain ⟨D, h1, h2⟩ := h
  exact ⟨D, World.ownsMap.kept h1 (grown_none hb) (by simp), h2⟩
theorem LedAt.row {w w' : World} {mb : Nat} {l : List OEd} {α : Type} {enc : α → List Value} {k : Nat} {v : Value} {r : List α} (h : LedAt w mb l) (hk : ∀ x, (enc x).length = k) (h0 : 0 < k) (hg : w.grownBy w' (some mb)) (hr : GRuns enc k w v r) : GRuns enc k w' v r := by
  obtain ⟨D, ⟨es, ck, hm, _⟩, _⟩ := h
  obtain ⟨A, c, e, hc, hm2, hx⟩ := hr
  refine ⟨A, c, e, hc, hm2, fun hp => ?_⟩
  obtain ⟨b, o, eA, hlt, hcell⟩ := hx hp
  have hne : b ≠ mb := by
    rintro rfl
    obtain ⟨x, hx0⟩ : ∃ x, r[0]? = some x := ⟨_, List.getElem?_eq_getElem hp⟩
    obtain ⟨u, hu⟩ : ∃ u, (enc x)[0]? = some u := ⟨_, List.getElem?_eq_getElem (by rw [hk]; exact h0)⟩
    have := hcell 0 x hx0 0 u hu
    unfold World.cell? at this
    rw [hm] at this
    cases this
  refine ⟨b, o, eA, Nat.lt_of_lt_of_le hlt hg.size, fun j x hj i u hu => ?_⟩
  rw [World.cell?_of_block (hg.block b hlt (by simpa using hne))]
  exact hcell j x hj i u hu
theorem oe_cells {w : World} {b o j : Nat} {x : OEd} {l : List OEd} (h : ∀ j x, l[j]? = some x → ∀ i u, (oeCell x)[i]? = some u → w.cell? ⟨b, o + j * 2 + i, none⟩ = some u) (hj : l[j]? = some x) :
    w.cell? ⟨b, o + j * 2, none⟩ = some (.int .i32 x.1) ∧ w.cell? ⟨b, o + j * 2 + 1, none⟩ = some (.int .i64 (x.2 : Int)) :=
  ⟨h j x hj 0 _ rfl, h j x hj 1 _ rfl⟩
theorem led_size {w : World} {mb : Nat} {W : Rst} (h : LedAt w mb (oeK (staQ W) (staQ W).length)) : ∃ D n, LedMap w mb n D ∧ Maps.size D = (staQ W).length := by
  obtain ⟨D, h1, h2⟩ := h
  refine ⟨D, _, h1, ?_⟩
  rw [h2.size]
  refine led_all h2.nd (fun q => ?_)
  rw [ledL_mem]
  unfold oeK
  rw [List.take_length]
  simp only [List.mem_flatMap]
  constructor
  · rintro (h | ⟨e, ⟨x, hx, he⟩, hq⟩)
    · exact .inl h
    · exact .inr ⟨x, hx, e, he, hq⟩
  · rintro (h | ⟨x, hx, e, he, hq⟩)
    · exact .inl h
    · exact .inr ⟨e, ⟨x, hx, he⟩, hq⟩
theorem out_at {W x : Rst} (hw : W.Pairwise (· < ·)) (hx : x ∈ staQ W) {j : Nat} {e : OEd} (he : (outE (staQ W) x)[j]? = some e) :
    0 < e.2 ∧ e.2 < (staQ W).length ∧ (∀ k e', k < j → (outE (staQ W) x)[k]? = some e' → e'.1 < e.1) := by
  have h : ∀ (j : Nat) e, (outE (staQ W) x)[j]? = some e → ∃ r, (hdsR x)[j]? = some r ∧ e = (r, (staQ W).idxOf (behR x r)) := fun j e he => by
    unfold outE edE at he
    rw [List.map_map, List.getElem?_map] at he
    obtain ⟨r, hr, e1⟩ := Option.map_eq_some_iff.1 he
    exact ⟨r, hr, e1.symm⟩
  obtain ⟨r, hr, rfl⟩ := h j e he
  have h1 := staQ_on hx (List.mem_of_getElem? hr)
  refine ⟨h1.1, h1.2, fun k e' hk he' => ?_⟩
  obtain ⟨r', hr', rfl⟩ := h k e' he'
  have hp := hdsR_rising (staQ_rising hw hx)
  obtain ⟨a1, rfl⟩ := List.getElem?_eq_some_iff.1 hr'
  obtain ⟨a2, rfl⟩ := List.getElem?_eq_some_iff.1 hr
  exact List.pairwise_iff_getElem.1 hp _ _ a1 a2 hk
theorem out_same {W x y : Rst} (hw : W.Pairwise (· < ·)) (hx : x ∈ staQ W) (hy : y ∈ staQ W) (he : decide ([] ∈ x) = decide ([] ∈ y)) (ho : outE (staQ W) x = outE (staQ W) y) : x = y := by
  refine staQ_least hw hx hy (decide_eq_decide.1 he) ?_
  have h : ∀ x, (stF (staQ W) x).2.2 = outE (staQ W) x := fun x => by
    unfold outE edE
    rw [List.map_map]
    rfl
  rw [h, h, ho]
theorem out_none {W x : Rst} {i : Nat} (hx : (staQ W)[i]? = some x) (he : decide ([] ∈ x) = false) (ho : (outE (staQ W) x).length = 0) : i = 0 := by
  have hx2 := List.mem_of_getElem? hx
  have e0 : hdsR x = [] := by
    have h1 := List.length_eq_zero_iff.1 ho
    unfold outE edE at h1
    rw [List.map_map] at h1
    exact List.map_eq_nil_iff.1 h1
  have e1 : x = [] := by
    cases x with
    | nil => rfl
    | cons t x' =>
      cases t with
      | nil => exact absurd (List.mem_cons_self) (of_decide_eq_false he)
      | cons r t =>
        have : r ∈ hdsR ((r :: t) :: x') := mem_hdsR.2 ⟨t, List.mem_cons_self⟩
        rw [e0] at this
        cases this
  subst e1
  have hW := staQ_nil hx2
  subst hW
  obtain ⟨h3, h4⟩ := List.getElem?_eq_some_iff.1 (staQ_zero ([] : Rst))
  obtain ⟨h5, h6⟩ := List.getElem?_eq_some_iff.1 hx
  have h7 := List.Nodup.idxOf_getElem (staQ_nodup ([] : Rst)) 0 h3
  have h8 := List.Nodup.idxOf_getElem (staQ_nodup ([] : Rst)) i h5
  rw [h4] at h7; rw [h6] at h8
  omega
theorem sta_inj {W x : Rst} {i k : Nat} (hi : (staQ W)[i]? = some x) (hk : (staQ W)[k]? = some x) : i = k := by
  obtain ⟨h3, h4⟩ := List.getElem?_eq_some_iff.1 hi
  obtain ⟨h5, h6⟩ := List.getElem?_eq_some_iff.1 hk
  have h7 := List.Nodup.idxOf_getElem (staQ_nodup W) i h3
  have h8 := List.Nodup.idxOf_getElem (staQ_nodup W) k h5
  rw [h4] at h7; rw [h6] at h8
  omega
/-- How many beginnings the first words have at most. -/
def mstX (X : List Wrd) (j : Nat) : Nat := 1 + ltrs (rnW (X.take j))
theorem mstX_zero (X : List Wrd) : mstX X 0 = 1 := by simp [mstX, rnW, ltrs]
theorem mstX_succ {X : List Wrd} {j : Nat} {x : Wrd} (h : X[j]? = some x) : mstX X (j + 1) = mstX X j + (rnK x.1).length := by
  unfold mstX rnW ltrs
  rw [List.take_add_one, h]
  simp [Nat.add_assoc]
theorem mstX_all (X : List Wrd) : mstX X X.length = 1 + ltrs (rnW X) := by unfold mstX; rw [List.take_length]
theorem z_wrap_add (a b : Nat) (h : a ≤ 200000000) (h2 : b ≤ 200000000) : IntKind.i64.wrap ((a : Int) + (b : Int)) = ((a + b : Nat) : Int) := by rw [IntKind.wrap_i64]; omega
theorem mstX_le {X : List Wrd} (hn : wisS X = 0) (j : Nat) : mstX X j ≤ 128000001 := by
  have hfa := rnW_facts hn
  have hl := (wisS_facts hn).2.2
  have h : ∀ l : Rst, (∀ x ∈ l, x.length ≤ 64) → ltrs l ≤ l.length * 64 := by
    intro l
    induction l with
    | nil => intro _; exact Nat.le_refl _
    | cons a l ih =>
      intro h
      have h1 := ih (fun x hx => h x (by simp [hx]))
      have h2 := h a (by simp)
      show (((a :: l).map List.length).sum) ≤ _
      rw [List.map_cons, List.sum_cons, List.length_cons, Nat.succ_mul]
      unfold ltrs at h1
      omega
  have e : rnW (X.take j) = (rnW X).take j := by unfold rnW; rw [List.map_take]
  have h2 := h (rnW (X.take j)) (fun x hx => (hfa x (by rw [e] at hx; exact List.mem_of_mem_take hx)).2.1)
  have h3 : (rnW (X.take j)).length ≤ X.length := by unfold rnW; rw [List.length_map, List.length_take]; omega
  unfold mstX
  omega
end Go.Proofs.YtnjhbblhlgpgdaaDoor
