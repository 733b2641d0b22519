/- The steps of two tokens, plain: what they are of, how many aren't matches; whatever steps are no fewer. -/
import Derived.Test.YthigbnklekdemaaDoorGAlive
namespace Go.Proofs.YthigbnklekdemaaDoor
open Go.RowKit Go.Shelf

theorem stA_rev (l : List St) : stA l.reverse = (stA l).reverse := by
  induction l with
  | nil => rfl
  | cons s l ih =>
    rw [List.reverse_cons, stA_append, ih]
    simp only [stA]
    split <;> simp
theorem stB_rev (l : List St) : stB l.reverse = (stB l).reverse := by
  induction l with
  | nil => rfl
  | cons s l ih =>
    rw [List.reverse_cons, stB_append, ih]
    simp only [stB]
    split <;> simp
theorem stC_rev (l : List St) : stC l.reverse = stC l := by
  induction l with
  | nil => rfl
  | cons s l ih =>
    rw [List.reverse_cons, stC_append, ih]
    simp only [stC]
    omega
theorem form_ok (s : St) (h : stOK s) : stForm s = true := by
  unfold stForm
  rcases h with h | h | h | h
  · simp [h.1, h.2]
  · simp [h.1, h.2]
  · simp [h.1, h.2]
  · simp [h.1, h.2]
theorem ok_form (s : St) (h : stForm s = true) : stOK s := by
  unfold stForm at h
  simp only [Bool.or_eq_true, decide_eq_true_eq] at h
  rcases h with ((h | h) | h) | h
  · exact .inl h
  · exact .inr (.inl h)
  · exact .inr (.inr (.inl h))
  · exact .inr (.inr (.inr h))
theorem good_fit (l : List St) (h : l.all stGood = true) : stFit l := by
  intro s hs
  have := List.all_eq_true.1 h s hs
  unfold stGood at this
  simp only [Bool.and_eq_true] at this
  have h1 := rune_bd this.1.1
  have h2 := rune_bd this.1.2
  exact ⟨by omega, by omega⟩
theorem good_ok (l : List St) (h : l.all stGood = true) : ∀ s ∈ l, stOK s := by
  intro s hs
  have := List.all_eq_true.1 h s hs
  unfold stGood at this
  rw [Bool.and_eq_true] at this
  exact ok_form s this.2

theorem tok_runes {s : List UInt8} (h : tokErr s = 0) : tokRunes s = items s ∧ Lib.validD s = true ∧ (∀ r ∈ tokRunes s, Lib.validRune r = true) ∧ encL (tokRunes s) = s := by
  have e : tokRunes s = items s := by rw [tokRunes, if_pos h]
  have hv : Lib.validD s = true := by
    cases hv : Lib.validD s with
    | true => rfl
    | false => rw [tokErr, hv] at h; cases h
  exact ⟨e, hv, by rw [e]; exact items_runes s hv, by rw [e]; exact enc_items s hv⟩
theorem allRunes_of {l : List Int} (h : ∀ r ∈ l, Lib.validRune r = true) : allRunes l = true := List.all_eq_true.2 h

/-- All of two tokens' steps. -/
theorem steps_facts (s t : List UInt8) (h : tokErr2 s t = 0) : readA (stepsS s t) = s ∧ readB (stepsS s t) = t ∧ stErr (stepsS s t) = 0 ∧ stC (stepsS s t) = distS s t ∧ stFit (stepsS s t) ∧ (stepsS s t).length ≤ 128 ∧ 0 < (stepsS s t).length := by
  obtain ⟨h1, h2⟩ := tokErr2_parts h
  obtain ⟨_, _, r1, e1⟩ := tok_runes h1
  obtain ⟨_, _, r2, e2⟩ := tok_runes h2
  have p := pathR_all (tokRunes s).reverse (tokRunes t).reverse
  have hs : stepsS s t = (pathR (tokRunes s).reverse (tokRunes t).reverse).reverse := by rw [stepsS, if_pos h]
  have hd : distS s t = levR (tokRunes s).reverse (tokRunes t).reverse := by rw [distS, if_pos h]
  have a1 : stA (stepsS s t) = tokRunes s := by rw [hs, stA_rev, p.1, List.reverse_reverse]
  have a2 : stB (stepsS s t) = tokRunes t := by rw [hs, stB_rev, p.2.1, List.reverse_reverse]
  have a3 : stC (stepsS s t) = distS s t := by rw [hs, stC_rev, p.2.2.1, hd]
  have hf : (stepsS s t).all stForm = true := List.all_eq_true.2 (fun q hq => form_ok q (p.2.2.2 q (by rw [hs] at hq; exact List.mem_reverse.1 hq)))
  have hg : (stepsS s t).all stGood = true := by rw [good_all _ hf, a1, a2, allRunes_of r1, allRunes_of r2]; rfl
  have hl := pathR_length (tokRunes s).reverse (tokRunes t).reverse
  have l1 := tok_len h1
  have l2 := tok_len h2
  rw [List.length_reverse, List.length_reverse] at hl
  refine ⟨?_, ?_, ?_, a3, good_fit _ hg, ?_, ?_⟩
  · rw [readA, if_pos hg, a1, encS, if_pos (allRunes_of r1), e1]
  · rw [readB, if_pos hg, a2, encS, if_pos (allRunes_of r2), e2]
  · rw [stErr, if_pos hg]
  · rw [hs, List.length_reverse]; omega
  · have hb := stA_len (stepsS s t)
    rw [a1] at hb
    omega

/-- No steps of two tokens are fewer than these are apart. -/
theorem steps_least (l : List St) (h : l.all stGood = true) (h2 : tokErr2 (readA l) (readB l) = 0) : distS (readA l) (readB l) ≤ stC l := by
  obtain ⟨h1, h3⟩ := tokErr2_parts h2
  have hok := good_ok l h
  have hf : l.all stForm = true := List.all_eq_true.2 (fun q hq => form_ok q (hok q hq))
  have hg := good_all l hf
  rw [h] at hg
  have hg' : allRunes (stA l) = true ∧ allRunes (stB l) = true := by simpa using hg.symm
  have ea : readA l = encL (stA l) := by rw [readA, if_pos h, encS, if_pos hg'.1]
  have eb : readB l = encL (stB l) := by rw [readB, if_pos h, encS, if_pos hg'.2]
  have ia := items_of_enc (stA l) (List.all_eq_true.1 hg'.1)
  have ib := items_of_enc (stB l) (List.all_eq_true.1 hg'.2)
  have ta : tokRunes (readA l) = stA l := by rw [(tok_runes h1).1, ea, ia.1]
  have tb : tokRunes (readB l) = stB l := by rw [(tok_runes h3).1, eb, ib.1]
  rw [distS, if_pos h2, ta, tb, ← stA_rev, ← stB_rev, ← stC_rev]
  exact stC_ge l.reverse (fun s hs => hok s (List.mem_reverse.1 hs))
theorem encL_size (l : List Int) : (encL l).length ≤ l.length * 4 := by
  induction l with
  | nil => simp [encL]
  | cons r l ih =>
    rw [encL_cons, List.length_append, List.length_cons]
    have := (encodeRune_len r).2
    omega
theorem read_size (l : List St) : (readA l).length ≤ l.length * 4 ∧ (readB l).length ≤ l.length * 4 := by
  have h1 := encL_size (stA l)
  have h2 := encL_size (stB l)
  have h3 := stA_len l
  have h4 := stB_len l
  constructor
  · unfold readA encS
    split
    · split
      · omega
      · simp
    · simp
  · unfold readB encS
    split
    · split
      · omega
      · simp
    · simp
end Go.Proofs.YthigbnklekdemaaDoor
