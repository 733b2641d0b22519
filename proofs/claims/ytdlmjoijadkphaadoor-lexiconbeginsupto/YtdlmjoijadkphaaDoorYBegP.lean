/- Words in order, plain: just those between two places begin so. -/
import Derived.Test.YtdlmjoijadkphaaDoorPk4
namespace Go.Proofs.YtdlmjoijadkphaaDoor
open Go.RowKit Go.Shelf

theorem pre_between (s v c : List UInt8) (h1 : ¬ v < s) (h2 : ¬ c < v) (h3 : s <+: c) : s <+: v := by
  induction s generalizing v c with
  | nil => exact List.nil_prefix
  | cons h t ih =>
    obtain ⟨c', rfl⟩ : ∃ c', c = h :: c' := by
      obtain ⟨q, hq⟩ := h3
      exact ⟨t ++ q, hq.symm⟩
    have h3' : t <+: c' := by
      obtain ⟨q, hq⟩ := h3
      exact ⟨q, by simpa using hq⟩
    cases v with
    | nil => exact absurd (List.nil_lt_cons h t) h1
    | cons k v =>
      rw [List.cons_lt_cons_iff] at h1 h2
      have e : k = h := by
        rcases UInt8.lt_or_eq_of_le (UInt8.not_lt.1 (fun hh => h1 (.inl hh))) with q | q
        · exact absurd (.inl q) h2
        · exact q.symm
      subst e
      have := ih v c' (fun hh => h1 (.inr ⟨rfl, hh⟩)) (fun hh => h2 (.inr ⟨rfl, hh⟩)) h3'
      obtain ⟨q, hq⟩ := this
      exact ⟨q, by rw [← hq]; rfl⟩
theorem lt_snoc (s : List UInt8) (b : UInt8) : s < s ++ [b] := by
  induction s with
  | nil => exact List.nil_lt_cons b []
  | cons h t ih => exact List.cons_lt_cons_iff.2 (.inr ⟨rfl, ih⟩)
theorem not_lt_pre {s v : List UInt8} (h : s <+: v) : ¬ v < s := by
  obtain ⟨q, rfl⟩ := h
  induction s with
  | nil => exact List.not_lt_nil _
  | cons a t ih =>
    intro hh
    rcases List.cons_lt_cons_iff.1 hh with h | ⟨_, h⟩
    · exact UInt8.lt_irrefl a h
    · exact ih h
theorem preK_iff (s x : ByteArray) : preK s x = true ↔ s.data.toList <+: x.data.toList := by
  unfold preK Lib.hasPrefix
  exact List.isPrefixOf_iff_prefix
theorem ltK_no {a b : ByteArray} : ltK a b = false ↔ ¬ a.data.toList < b.data.toList := by
  rw [← Bool.not_eq_true, ltK_iff]
/-- Just those between the places begin so. -/
theorem beg_just {l : List Wrd} (hs : SrtW l) (s : ByteArray) (i : Nat) (v : Wrd) (hv : l[i]? = some v) : preK s v.1 = (decide ((i : Int) ≥ (bgF l s : Int)) && decide ((i : Int) < (bgF l s : Int) + (bgN l s : Int))) := by
  obtain ⟨h1, h2⟩ := bgF_srt hs s
  obtain ⟨t1, t2⟩ := tw_at (fun x : Wrd => preK s x.1) (l.drop (bgF l s))
  have hN : ((l.drop (bgF l s)).takeWhile (fun x : Wrd => preK s x.1)).length = bgN l s := rfl
  rw [hN] at t1 t2
  rcases Nat.lt_or_ge i (bgF l s) with h | h
  · have h3 := h1 i v h hv
    have h4 : preK s v.1 = false := by
      cases hp : preK s v.1 with
      | false => rfl
      | true => exact absurd ((ltK_iff _ _).1 h3) (not_lt_pre ((preK_iff _ _).1 hp))
    rw [h4, decide_eq_false (by omega)]; rfl
  · rw [decide_eq_true (show (i : Int) ≥ (bgF l s : Int) by omega), Bool.true_and]
    rcases Nat.lt_or_ge i (bgF l s + bgN l s) with h' | h'
    · rw [decide_eq_true (by omega)]
      exact t1 (i - bgF l s) v (by omega) (by rw [List.getElem?_drop, show bgF l s + (i - bgF l s) = i by omega]; exact hv)
    · rw [decide_eq_false (by omega)]
      have hil := (List.getElem?_eq_some_iff.1 hv).1
      have hq : l[bgF l s + bgN l s]? = some l[bgF l s + bgN l s] := List.getElem?_eq_getElem (by omega)
      have h5 := t2 l[bgF l s + bgN l s] (by rw [List.getElem?_drop]; exact hq)
      have h6 := h2 _ _ (by omega) hq
      cases hp : preK s v.1 with
      | false => rfl
      | true =>
        have h7 : ¬ v.1.data.toList < (l[bgF l s + bgN l s]).1.data.toList := by
          rcases Nat.lt_or_eq_of_le h' with h8 | h8
          · have := (ltK_not (srtW_at hs h8 hq hv)).1
            exact ltK_no.1 this
          · have e : l[bgF l s + bgN l s] = v := by
              have : l[bgF l s + bgN l s]? = some v := by rw [h8]; exact hv
              rw [hq] at this; exact Option.some.inj this
            rw [e]; exact List.lt_irrefl _
        have h8 := pre_between _ _ _ (ltK_no.1 h6) h7 ((preK_iff _ _).1 hp)
        rw [(preK_iff _ _).2 h8] at h5
        cases h5
/-- With a byte more no others. -/
theorem beg_more {l : List Wrd} (hs : SrtW l) {s s2 : ByteArray} {b : UInt8} (e : s2.data.toList = s.data.toList ++ [b]) : bgF l s ≤ bgF l s2 ∧ bgF l s2 + bgN l s2 ≤ bgF l s + bgN l s := by
  obtain ⟨h1, h2⟩ := bgF_srt hs s
  obtain ⟨k1, k2⟩ := bgF_srt hs s2
  have hlt : ltK s s2 = true := by rw [ltK_iff, e]; exact lt_snoc _ _
  have hx : bgF l s ≤ bgF l s2 := by
    rcases Nat.lt_or_ge (bgF l s2) (bgF l s) with h | h
    · have hb : bgF l s2 < l.length := Nat.lt_of_lt_of_le h (bgF_le l s)
      have hq : l[bgF l s2]? = some l[bgF l s2] := List.getElem?_eq_getElem hb
      have h3 := k2 _ _ (Nat.le_refl _) hq
      rw [ltK_on (h1 _ _ h hq) hlt] at h3
      cases h3
    · exact h
  refine ⟨hx, ?_⟩
  have hz : bgF l s2 ≤ bgF l s + bgN l s := by
    rcases Nat.lt_or_ge (bgF l s + bgN l s) (bgF l s2) with h | h
    · exfalso
      have hb : bgF l s + bgN l s < l.length := Nat.lt_of_lt_of_le h (bgF_le l s2)
      have hq : l[bgF l s + bgN l s]? = some l[bgF l s + bgN l s] := List.getElem?_eq_getElem hb
      have h3 := k1 _ _ h hq
      have h4 := h2 _ _ (by omega) hq
      have h5 := pre_between _ _ _ (ltK_no.1 h4) (fun hh => by
        have := (ltK_iff _ _).1 h3
        exact List.lt_irrefl _ (List.lt_trans this hh)) (show s.data.toList <+: s2.data.toList from by rw [e]; exact List.prefix_append _ _)
      have h6 := beg_just hs s _ _ hq
      rw [(preK_iff _ _).2 h5, decide_eq_false (show ¬ ((bgF l s + bgN l s : Nat) : Int) < (bgF l s : Int) + (bgN l s : Int) by omega), Bool.and_false] at h6
      cases h6
    · exact h
  rcases Nat.eq_zero_or_pos (bgN l s2) with h | h
  · omega
  · have hle := bgN_le l s2
    have hq : l[bgF l s2 + bgN l s2 - 1]? = some l[bgF l s2 + bgN l s2 - 1] := List.getElem?_eq_getElem (by omega)
    have h6 := beg_just hs s2 _ _ hq
    rw [decide_eq_true (show ((bgF l s2 + bgN l s2 - 1 : Nat) : Int) ≥ (bgF l s2 : Int) by omega), decide_eq_true (show ((bgF l s2 + bgN l s2 - 1 : Nat) : Int) < (bgF l s2 : Int) + (bgN l s2 : Int) by omega)] at h6
    have h7 := (preK_iff _ _).1 h6
    rw [e] at h7
    have h8 : preK s (l[bgF l s2 + bgN l s2 - 1]).1 = true := (preK_iff _ _).2 ((List.prefix_append _ _).trans h7)
    have h9 := beg_just hs s _ _ hq
    rw [h8] at h9
    have h10 := h9.symm
    rw [Bool.and_eq_true, decide_eq_true_eq, decide_eq_true_eq] at h10
    omega
/-- The first ones stand ahead of those that are left out. -/
theorem bst_out {l : List Wrd} (hs : SrtW l) (k : Nat) (last w : Wrd) (hl : last ∈ (bst l).take k) (hw : w ∈ l) (hno : ∀ x ∈ (bst l).take k, x.1 ≠ w.1) : ¬ ltF w last := by
  have hp := bst_ltF hs
  rw [← List.take_append_drop k (bst l)] at hp
  have hm : w ∈ bst l := (bst_perm l).symm.subset hw
  rw [← List.take_append_drop k (bst l)] at hm
  rcases List.mem_append.1 hm with h | h
  · exact absurd rfl (hno w h)
  · exact ltF_not ((List.pairwise_append.1 hp).2.2 last hl w h)
theorem bst_keys {l : List Wrd} (hs : SrtW l) (k i : Nat) (x : Wrd) (hx : ((bst l).take k)[i]? = some x) : ¬ ∃ y ∈ ((bst l).take k).take i, y.1 = x.1 := by
  rintro ⟨y, hy, e⟩
  have hnd : (bst l).Pairwise (fun x y : Wrd => x.1 ≠ y.1) := by
    have key : ∀ l : List Wrd, SrtW l → l.Pairwise (fun x y : Wrd => x.1 ≠ y.1) := by
      intro l
      induction l with
      | nil => intro _; exact List.Pairwise.nil
      | cons a l ih => intro hs; exact List.pairwise_cons.2 ⟨fun y hy => (ltK_not (hs.1 y hy)).2, ih hs.2⟩
    exact ((bst_perm l).pairwise_iff (fun h => h.symm)).2 (key l hs)
  have hnd2 : ((bst l).take k).Pairwise (fun x y : Wrd => x.1 ≠ y.1) := hnd.sublist (List.take_sublist _ _)
  obtain ⟨j, hj⟩ := List.getElem?_of_mem hy
  rw [List.getElem?_take] at hj
  split at hj
  · rename_i hji
    obtain ⟨p1, rfl⟩ := List.getElem?_eq_some_iff.1 hj
    obtain ⟨p2, rfl⟩ := List.getElem?_eq_some_iff.1 hx
    exact List.pairwise_iff_getElem.1 hnd2 j i p1 p2 hji e
  · cases hj
theorem bst_next {l : List Wrd} (hs : SrtW l) (k i : Nat) (y x : Wrd) (hy : ((bst l).take k)[i]? = some y) (hx : ((bst l).take k)[i + 1]? = some x) : ltF y x := by
  have hp : ((bst l).take k).Pairwise ltF := (bst_ltF hs).sublist (List.take_sublist _ _)
  obtain ⟨p1, rfl⟩ := List.getElem?_eq_some_iff.1 hy
  obtain ⟨p2, rfl⟩ := List.getElem?_eq_some_iff.1 hx
  exact List.pairwise_iff_getElem.1 hp i (i + 1) p1 p2 (by omega)
end Go.Proofs.YtdlmjoijadkphaaDoor
