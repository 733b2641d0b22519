/- The law RunesTokens, walked: a token is a text of one to so many runes; a letter's text is one of letters, and of two, too. -/
import Derived.Test.YthigbnklekdemaaDoorBack
import Derived.Lib.RuneCount
import Derived.Lib.RuneCountTail
import Derived.OpenShut
namespace Go.Proofs.YthigbnklekdemaaDoor
open Go.RowKit Go.Shelf

/-- Of a text there are as many runes as are counted. -/
theorem count_items (s : ByteArray) : ∀ (fuel pos : Nat), s.size - pos ≤ fuel → Lib.validD (s.data.toList.drop pos) = true → Lib.runeCountFrom s fuel pos = (items (s.data.toList.drop pos)).length := by
  intro fuel
  induction fuel with
  | zero =>
    intro pos hf hv
    rw [List.drop_of_length_le (by rw [← Lib.size_eq]; omega)]
    rw [Lib.runeCountFrom_end _ _ _ (by omega)]; rfl
  | succ fuel ih =>
    intro pos hf hv
    by_cases hp : pos < s.size
    · have hne := drop_ne s pos hp
      have hd : Utf8.decode s pos = Lib.decodeL (s.data.toList.drop pos) := by
        rw [Lib.decodeL_N, Lib.decode_N]
        simp [List.getD_eq_getElem?_getD, List.getElem?_drop]
      have hb : badB (s.data.toList.drop pos) = false := by
        cases h : badB (s.data.toList.drop pos) with
        | false => rfl
        | true => rw [valid_step _ hne, h] at hv; simp at hv
      rw [valid_step _ hne, hb] at hv
      simp only [Bool.false_eq_true, if_false, List.drop_drop] at hv
      have hw := Lib.decodeL_width (s.data.toList.drop pos)
      rw [items_step _ hne, hb]
      simp only [Bool.false_eq_true, if_false, List.length_cons, List.drop_drop]
      rw [← ih (pos + (Lib.decodeL (s.data.toList.drop pos)).2) (by omega) hv, ← hd]
      simp only [Lib.runeCountFrom, hp, if_true]
      omega
    · rw [List.drop_of_length_le (by rw [← Lib.size_eq]; omega), Lib.runeCountFrom_end _ _ _ hp]; rfl
theorem count_valid (s : ByteArray) (hv : Lib.validD s.data.toList = true) : Lib.runeCount s = (items s.data.toList).length := by
  have := count_items s s.size 0 (by omega) (by simpa using hv)
  simpa [Lib.runeCount] using this

theorem letter_valid (r : Int) (h : letterB r = true) : Lib.validRune r = true := by
  unfold letterB at h
  simp only [decide_eq_true_eq] at h
  rcases h with h | h | h
  · simp [Lib.validRune]; omega
  · simp [Lib.validRune]; omega
  · exact h.2.1
theorem letters_one (r : Int) (t : List Int) (h : Lib.validRune r = true) (ht : ∀ x ∈ t, Lib.validRune x = true) : lettersB (encL (r :: t)) = (letterB r && t.all letterB) := by
  unfold lettersB
  have hr : ∀ x ∈ r :: t, Lib.validRune x = true := by intro x hx; rcases List.mem_cons.1 hx with rfl | hx; exact h; exact ht x hx
  rw [(items_of_enc (r :: t) hr).1]
  have : (encL (r :: t)).isEmpty = false := by
    rw [encL_cons]
    have := encodeRune_len r
    cases h : Lib.encodeRune r with
    | nil => rw [h] at this; simp at this
    | cons _ _ => rfl
  rw [this]; simp
theorem enc_blank : Lib.encodeRune 32 = [32] := by decide +kernel


theorem runs_lit (w : World) (r : Int) : Runs (w.alloc (.cells #[.int .i32 r] 21)) (.slice (some ⟨w.heap.size, 0, none⟩) 1 1) [r] := by
  refine ⟨some ⟨w.heap.size, 0, none⟩, 1, rfl, by simp, ⟨by simp [maxLen], fun h => by cases h⟩, fun _ => ⟨w.heap.size, 0, rfl, by simp, fun j hj => ?_⟩⟩
  obtain rfl : j = 0 := by simp at hj; exact hj
  exact cell_of_row _ _ _ #[.int .i32 r] 21 (0, 0) (heap_alloc_new w _)
end Go.Proofs.YthigbnklekdemaaDoor
