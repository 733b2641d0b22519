/- Layer 11, plain: the document's way of parting a text, byte by byte, is the fewest words, the longer first. -/
import Derived.Test.YtljaibhhkjapmaaDoorPk10
namespace Go.Proofs.YtljaibhhkjapmaaDoor
open Go.RowKit Go.Shelf
set_option linter.unusedVariables false
set_option linter.unusedSimpArgs false

/-- Whether an end of a text is made of words; of which. -/
def mdB (W : List (List Int)) (b : List UInt8) : Bool := Lib.validD b && decide ((cut W (items b)).1 ≠ 65)
def wyT (W : List (List Int)) (b : List UInt8) : List ByteArray := if mdB W b = true then (spl W (items b)).map mkT else []
theorem mdB_nil (W : List (List Int)) : mdB W [] = true ∧ wyT W [] = [] := by
  have h : mdB W [] = true := by
    unfold mdB
    rw [items_nil, cut_nil]
    rfl
  exact ⟨h, by unfold wyT; rw [if_pos h]; rfl⟩
theorem wyT_len {W : List (List Int)} {b : List UInt8} (h : mdB W b = true) : (wyT W b).length = (cut W (items b)).1 := by
  unfold wyT
  rw [if_pos h, List.length_map]
  unfold mdB at h
  rw [Bool.and_eq_true, decide_eq_true_eq] at h
  exact spl_len h.2
/-- Whether a way is better than another one. -/
def betF : List ByteArray → List ByteArray → Bool
  | x :: a, y :: b => if x.size ≠ y.size then decide (y.size < x.size) else betF a b
  | _, _ => false
def betB (a b : List ByteArray) : Bool := if a.length ≠ b.length then decide (a.length < b.length) else betF a b
/-- Whether a word may be the first one, where an end of a text begins with it. -/
def cndB (W : List (List Int)) (b : List UInt8) (x : Wrd) : Bool := Lib.hasPrefix b x.1.data.toList && mdB W (b.drop x.1.size)
/-- One word more that is looked at. -/
def stpW (W : List (List Int)) (b : List UInt8) (acc : Option (List ByteArray)) (x : Wrd) : Option (List ByteArray) :=
  if cndB W b x = true then
    (match acc with
      | none => some (x.1 :: wyT W (b.drop x.1.size))
      | some a => if betB (x.1 :: wyT W (b.drop x.1.size)) a = true then some (x.1 :: wyT W (b.drop x.1.size)) else some a)
  else acc
def accW (W : List (List Int)) (b : List UInt8) (l : List Wrd) : Option (List ByteArray) := l.foldl (stpW W b) none
theorem accW_take {W : List (List Int)} {b : List UInt8} {l : List Wrd} (k : Nat) (x : Wrd) (h : l[k]? = some x) : accW W b (l.take (k + 1)) = stpW W b (accW W b (l.take k)) x := by
  unfold accW
  rw [List.take_add_one, h, List.foldl_append]
  rfl
theorem pre_bytes {b x : List UInt8} : Lib.hasPrefix b x = true ↔ x <+: b := by
  unfold Lib.hasPrefix
  rw [List.isPrefixOf_iff_prefix]
/-- Two words that an end begins with: the later one is longer. -/
theorem later_longer {x y : ByteArray} {b : List UInt8} (h : ltK x y = true) (hx : x.data.toList <+: b) (hy : y.data.toList <+: b) : x.size < y.size := by
  rcases Nat.lt_or_ge x.size y.size with h1 | h1
  · exact h1
  · have h2 : y.data.toList <+: x.data.toList := List.prefix_of_prefix_length_le hy hx (by rw [← Lib.size_eq, ← Lib.size_eq]; exact h1)
    exact absurd ((ltK_iff x y).1 h) (not_lt_pre h2)
theorem betB_cons {x y : ByteArray} {a b : List ByteArray} (h : y.size < x.size) : betB (x :: a) (y :: b) = decide (a.length ≤ b.length) := by
  unfold betB
  rw [List.length_cons, List.length_cons]
  by_cases h1 : a.length + 1 ≠ b.length + 1
  · rw [if_pos h1]
    exact decide_eq_decide.2 (by omega)
  · rw [if_neg h1, betF, if_pos (by omega), decide_eq_true h, decide_eq_true (by omega)]
theorem accW_spec (W : List (List Int)) (b : List UInt8) : ∀ (n : Nat) (l : List Wrd), l.length = n → SrtW l →
    (accW W b l = none ∧ ∀ x ∈ l, cndB W b x = false) ∨
    (∃ x ∈ l, cndB W b x = true ∧ accW W b l = some (x.1 :: wyT W (b.drop x.1.size)) ∧ ∀ y ∈ l, cndB W b y = true → (wyT W (b.drop x.1.size)).length ≤ (wyT W (b.drop y.1.size)).length ∧ ((wyT W (b.drop y.1.size)).length = (wyT W (b.drop x.1.size)).length → y.1.size ≤ x.1.size)) := by
  intro n
  induction n with
  | zero =>
    intro l h _
    obtain rfl := List.eq_nil_of_length_eq_zero h
    exact .inl ⟨rfl, fun x hx => by cases hx⟩
  | succ n ih =>
    intro l h hs
    obtain ⟨y, hy⟩ : ∃ y, l[n]? = some y := ⟨_, List.getElem?_eq_getElem (by omega)⟩
    have e : l = l.take n ++ [y] := by
      have h1 := List.take_add_one (l := l) (i := n)
      rw [List.take_of_length_le (by omega), hy] at h1
      exact h1
    have e2 := accW_take (W := W) (b := b) n y hy
    rw [List.take_of_length_le (by omega)] at e2
    have hs2 : SrtW (l.take n) := (ordW_srt _).1 (by
      have : ∀ (l : List Wrd) (k : Nat), SrtW l → SrtW (l.take k) := by
        intro l
        induction l with
        | nil => intro k _; rw [List.take_nil]; exact trivial
        | cons a l ih =>
          intro k hk
          cases k with
          | zero => exact trivial
          | succ k => exact ⟨fun b hb => hk.1 b (List.mem_of_mem_take hb), ih k hk.2⟩
      exact (ordW_srt _).2 (this l n hs))
    have hlt : ∀ x ∈ l.take n, ltK x.1 y.1 = true := fun x hx => by
      obtain ⟨i, hi⟩ := List.mem_iff_getElem?.1 hx
      rw [List.getElem?_take] at hi
      split at hi
      · exact srtW_at hs (by assumption) hi hy
      · cases hi
    have hmem : ∀ x, x ∈ l ↔ x ∈ l.take n ∨ x = y := fun x => by
      constructor
      · intro hx; rw [e] at hx; rcases List.mem_append.1 hx with h1 | h1
        · exact .inl h1
        · exact .inr (by simpa using h1)
      · rintro (h1 | rfl)
        · exact List.mem_of_mem_take h1
        · exact List.mem_of_getElem? hy
    have i0 := ih (l.take n) (by rw [List.length_take]; omega) hs2
    rw [e2]
    unfold stpW
    by_cases hc : cndB W b y = true
    · rw [if_pos hc]
      rcases i0 with ⟨h1, h2⟩ | ⟨x, hx, hcx, h1, h2⟩
      · rw [h1]
        refine .inr ⟨y, (hmem y).2 (.inr rfl), hc, rfl, fun z hz hcz => ?_⟩
        rcases (hmem z).1 hz with h3 | rfl
        · rw [h2 z h3] at hcz; cases hcz
        · exact ⟨Nat.le_refl _, fun _ => Nat.le_refl _⟩
      · rw [h1]
        have hcb := hc
        have hcbx := hcx
        unfold cndB at hcb hcbx
        rw [Bool.and_eq_true, pre_bytes] at hcb hcbx
        have hll : ∀ z ∈ l.take n, cndB W b z = true → z.1.size < y.1.size := fun z hz hcz => by
          unfold cndB at hcz
          rw [Bool.and_eq_true, pre_bytes] at hcz
          exact later_longer (hlt z hz) hcz.1 hcb.1
        have hbe := betB_cons (a := wyT W (b.drop y.1.size)) (b := wyT W (b.drop x.1.size)) (hll x hx hcx)
        simp only
        rw [hbe]
        by_cases hle : (wyT W (b.drop y.1.size)).length ≤ (wyT W (b.drop x.1.size)).length
        · rw [if_pos (decide_eq_true hle)]
          refine .inr ⟨y, (hmem y).2 (.inr rfl), hc, rfl, fun z hz hcz => ?_⟩
          rcases (hmem z).1 hz with h3 | rfl
          · have h4 := h2 z h3 hcz
            have h5 := hll z h3 hcz
            exact ⟨by omega, fun _ => by omega⟩
          · exact ⟨Nat.le_refl _, fun _ => Nat.le_refl _⟩
        · rw [if_neg (by simpa using hle)]
          refine .inr ⟨x, (hmem x).2 (.inl hx), hcx, rfl, fun z hz hcz => ?_⟩
          rcases (hmem z).1 hz with h3 | rfl
          · exact h2 z h3 hcz
          · exact ⟨by omega, fun e => by omega⟩
    · rw [if_neg hc]
      rcases i0 with ⟨h1, h2⟩ | ⟨x, hx, hcx, h1, h2⟩
      · refine .inl ⟨h1, fun z hz => ?_⟩
        rcases (hmem z).1 hz with h3 | rfl
        · exact h2 z h3
        · simpa using hc
      · refine .inr ⟨x, (hmem x).2 (.inl hx), hcx, h1, fun z hz hcz => ?_⟩
        rcases (hmem z).1 hz with h3 | rfl
        · exact h2 z h3 hcz
        · exact absurd hcz hc
/-- A word that may be first, in an end that is a text: how long it is, in runes. -/
theorem cnd_runes {l : List Wrd} (h : wisS l = 0) {b : List UInt8} {x : Wrd} (hx : x ∈ l) (hc : cndB (rnW l) b x = true) : Lib.validD b = true ∧ (rnK x.1).length ∈ wrdN (rnW l) (items b) ∧ items (b.drop x.1.size) = (items b).drop (rnK x.1).length ∧ (items b).take (rnK x.1).length = rnK x.1 ∧ (cut (rnW l) ((items b).drop (rnK x.1).length)).1 ≠ 65 ∧ (wyT (rnW l) (b.drop x.1.size)).length = (cut (rnW l) ((items b).drop (rnK x.1).length)).1 := by
  have hl := wyT_len (W := rnW l) (b := b.drop x.1.size)
  unfold cndB at hc
  rw [Bool.and_eq_true, pre_bytes] at hc
  obtain ⟨h1, h2⟩ := hc
  have hl2 := hl h2
  unfold mdB at h2
  rw [Bool.and_eq_true, decide_eq_true_eq] at h2
  have hv := valid_of h hx
  have e : b = x.1.data.toList ++ b.drop x.1.size := by
    obtain ⟨t, ht⟩ := h1
    rw [← ht, Lib.size_eq, List.drop_left]
  obtain ⟨h3, h4⟩ := items_join x.1.data.toList (b.drop x.1.size) hv
  rw [← e] at h3 h4
  have h5 : items b = rnK x.1 ++ items (b.drop x.1.size) := h3
  have hd : (items b).drop (rnK x.1).length = items (b.drop x.1.size) := by
    have : (rnK x.1 ++ items (b.drop x.1.size)).drop (rnK x.1).length = items (b.drop x.1.size) := List.drop_left
    rwa [← h5] at this
  have ht : (items b).take (rnK x.1).length = rnK x.1 := by
    have : (rnK x.1 ++ items (b.drop x.1.size)).take (rnK x.1).length = rnK x.1 := List.take_left
    rwa [← h5] at this
  have hle : (rnK x.1).length ≤ (items b).length := by
    have := congrArg List.length h5
    rw [List.length_append] at this
    omega
  refine ⟨h4.trans h2.1, mem_wrdN.2 ⟨hle, by rw [ht]; exact List.mem_map.2 ⟨x, hx, rfl⟩⟩, hd.symm, ht, by rw [hd]; exact h2.2, by rw [hd]; exact hl2⟩
/-- And the other way round. -/
theorem cnd_of {l : List Wrd} (h : wisS l = 0) {b : List UInt8} (hb : Lib.validD b = true) {n : Nat} (hn : n ∈ wrdN (rnW l) (items b)) (hc : (cut (rnW l) ((items b).drop n)).1 ≠ 65) : ∃ x ∈ l, (rnK x.1).length = n ∧ cndB (rnW l) b x = true := by
  obtain ⟨h1, h2⟩ := mem_wrdN.1 hn
  obtain ⟨x, hx, e⟩ := List.mem_map.1 h2
  have hv := valid_of h hx
  have hlen : (rnK x.1).length = n := by rw [e, List.length_take]; omega
  have hpre : rnK x.1 <+: items b := by rw [e]; exact List.take_prefix _ _
  have hp : x.1.data.toList <+: b := by
    obtain ⟨t, ht⟩ := hpre
    have h3 := enc_items b hb
    rw [← ht, encL_append, show encL (rnK x.1) = x.1.data.toList from enc_items _ hv] at h3
    exact ⟨_, h3⟩
  have e2 : b = x.1.data.toList ++ b.drop x.1.size := by
    obtain ⟨t, ht⟩ := hp
    rw [← ht, Lib.size_eq, List.drop_left]
  obtain ⟨h3, h4⟩ := items_join x.1.data.toList (b.drop x.1.size) hv
  rw [← e2] at h3 h4
  have h5 : items b = rnK x.1 ++ items (b.drop x.1.size) := h3
  have hd : (items b).drop n = items (b.drop x.1.size) := by
    have : (rnK x.1 ++ items (b.drop x.1.size)).drop (rnK x.1).length = items (b.drop x.1.size) := List.drop_left
    rwa [← h5, hlen] at this
  refine ⟨x, hx, hlen, ?_⟩
  unfold cndB mdB
  rw [Bool.and_eq_true, Bool.and_eq_true, pre_bytes, decide_eq_true_eq]
  exact ⟨hp, by rw [← h4]; exact hb, by rw [← hd]; exact hc⟩
/-- What the document finds of an end of a text. -/
theorem accW_is {l : List Wrd} (h : wisS l = 0) {b : List UInt8} (hne : b ≠ []) (hl : Lib.validD b = true → (items b).length ≤ 64) : accW (rnW l) b l = if mdB (rnW l) b = true then some (wyT (rnW l) b) else none := by
  have h0 := no_empty h
  rcases accW_spec (rnW l) b _ l rfl (wisS_facts h).2.1 with ⟨h1, h2⟩ | ⟨x, hx, hc, h1, h2⟩
  · rw [h1, if_neg]
    intro hm
    have hm2 := hm
    unfold mdB at hm2
    rw [Bool.and_eq_true, decide_eq_true_eq] at hm2
    have hne2 : items b ≠ [] := fun e => hne ((items_eq_nil b).1 e)
    rcases cut_spec h0 hne2 with ⟨e, _⟩ | ⟨n, hn, e, h3, _⟩
    · rw [e] at hm2; exact hm2.2 rfl
    · obtain ⟨y, hy, _, hcy⟩ := cnd_of h hm2.1 hn (by omega)
      rw [h2 y hy] at hcy
      cases hcy
  · obtain ⟨c1, c2, c3, c4, c5, c6⟩ := cnd_runes h hx hc
    have hl' := hl c1
    have hne2 : items b ≠ [] := fun e => hne ((items_eq_nil b).1 e)
    rcases cut_spec h0 hne2 with ⟨e, h3⟩ | ⟨n, hn, e, h3, h4⟩
    · exact absurd (h3 _ c2) c5
    · obtain ⟨y, hy, hyl, hcy⟩ := cnd_of h c1 hn (by omega)
      obtain ⟨d1, d2, d3, d4, d5, d6⟩ := cnd_runes h hy hcy
      rw [hyl] at d2 d3 d4 d5 d6
      obtain ⟨a1, a2⟩ := h4 _ c2
      obtain ⟨b1, b2⟩ := h2 y hy hcy
      rw [c6, d6] at b1 b2
      have e5 := a2 (by omega)
      have e6 := b2 (by omega)
      have e7 : x.1 = mkT ((items b).take (rnK x.1).length) := by rw [c4, mkT_rn (valid_of h hx)]
      have e8 : y.1 = mkT ((items b).take n) := by rw [d4, mkT_rn (valid_of h hy)]
      have e9 := mkT_take_size (items b) e5
      rw [← e7, ← e8] at e9
      have hnl := (mem_wrdN.1 hn).1
      have e10 := mkT_take_eq (items b) e5 hnl (by rw [← e7, ← e8]; omega)
      have hnz := wrdN_pos h0 hn
      have hcl := cut_len h0 _ ((items b).drop n) rfl
      rw [List.length_drop] at hcl
      have hm1 : (cut (rnW l) (items b)).1 ≠ 65 := by
        rw [e]
        show 1 + (cut (rnW l) ((items b).drop n)).1 ≠ 65
        omega
      have hm : mdB (rnW l) b = true := by
        unfold mdB
        rw [Bool.and_eq_true, decide_eq_true_eq]
        exact ⟨c1, hm1⟩
      rw [h1, if_pos hm]
      congr 1
      have hcd := hc
      unfold cndB at hcd
      rw [Bool.and_eq_true] at hcd
      have hw : wyT (rnW l) (b.drop x.1.size) = (spl (rnW l) ((items b).drop n)).map mkT := by
        unfold wyT
        rw [if_pos hcd.2, c3, e10]
      unfold wyT at hw ⊢
      rw [if_pos hm, hw, spl_cons h0 hne2 hm1 hl', e]
      rw [List.map_cons]
      congr 1
      rw [e7, e10]
theorem suffix_len {s b : List UInt8} (hs : Lib.validD s = true) (hb : Lib.validD b = true) (h : b <:+ s) : (items b).length ≤ (items s).length := by
  obtain ⟨p, rfl⟩ := h
  have hp : Lib.validD p = true := by
    cases hv : Lib.validD p with
    | true => rfl
    | false => have := join_bad p b hv hb; rw [hs] at this; cases this
  have := (items_join p b hp).1
  rw [this, List.length_append]
  omega
end Go.Proofs.YtljaibhhkjapmaaDoor
