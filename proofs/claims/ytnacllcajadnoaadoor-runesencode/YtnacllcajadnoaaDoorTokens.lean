/- The law RunesTokens, walked: a token is a text of one to so many runes; a letter's text is one of letters, and of two, too. -/
import Derived.Test.YtnacllcajadnoaaDoorBack
import Derived.Lib.RuneCount
import Derived.Lib.RuneCountTail
import Derived.OpenShut
namespace Go.Proofs.YtnacllcajadnoaaDoor
open Go.RowKit Go.Shelf

/-- Of a text there are as many runes as are counted. -/
theorem count_items (s : ByteArray) : ∀ (fuel pos : Nat), s.size - pos ≤ fuel → Lib.validD (s.data.toList.drop pos) = true → Lib.runeCountFrom s fuel pos = (items (s.data.toList.drop pos)).length := by
  intro fuel
  induction fuel with
  | zero =>
    intro pos hf hv
    rw [List.drop_of_length_le (by rw [← Lib.size_eq]; omega)]
    rw [Lib.runeCountFrom_end _ _ _ (by omega)]; rfl
  | succ fuel ih =>
    intro pos hf hv
    by_cases hp : pos < s.size
    · have hne := drop_ne s pos hp
      have hd : Utf8.decode s pos = Lib.decodeL (s.data.toList.drop pos) := by
        rw [Lib.decodeL_N, Lib.decode_N]
        simp [List.getD_eq_getElem?_getD, List.getElem?_drop]
      have hb : badB (s.data.toList.drop pos) = false := by
        cases h : badB (s.data.toList.drop pos) with
        | false => rfl
        | true => rw [valid_step _ hne, h] at hv; simp at hv
      rw [valid_step _ hne, hb] at hv
      simp only [Bool.false_eq_true, if_false, List.drop_drop] at hv
      have hw := Lib.decodeL_width (s.data.toList.drop pos)
      rw [items_step _ hne, hb]
      simp only [Bool.false_eq_true, if_false, List.length_cons, List.drop_drop]
      rw [← ih (pos + (Lib.decodeL (s.data.toList.drop pos)).2) (by omega) hv, ← hd]
      simp only [Lib.runeCountFrom, hp, if_true]
      omega
    · rw [List.drop_of_length_le (by rw [← Lib.size_eq]; omega), Lib.runeCountFrom_end _ _ _ hp]; rfl
theorem count_valid (s : ByteArray) (hv : Lib.validD s.data.toList = true) : Lib.runeCount s = (items s.data.toList).length := by
  have := count_items s s.size 0 (by omega) (by simpa using hv)
  simpa [Lib.runeCount] using this

theorem letter_valid (r : Int) (h : letterB r = true) : Lib.validRune r = true := by
  unfold letterB at h
  simp only [decide_eq_true_eq] at h
  rcases h with h | h | h
  · simp [Lib.validRune]; omega
  · simp [Lib.validRune]; omega
  · exact h.2.1
theorem letters_one (r : Int) (t : List Int) (h : Lib.validRune r = true) (ht : ∀ x ∈ t, Lib.validRune x = true) : lettersB (encL (r :: t)) = (letterB r && t.all letterB) := by
  unfold lettersB
  have hr : ∀ x ∈ r :: t, Lib.validRune x = true := by intro x hx; rcases List.mem_cons.1 hx with rfl | hx; exact h; exact ht x hx
  rw [(items_of_enc (r :: t) hr).1]
  have : (encL (r :: t)).isEmpty = false := by
    rw [encL_cons]
    have := encodeRune_len r
    cases h : Lib.encodeRune r with
    | nil => rw [h] at this; simp at this
    | cons _ _ => rfl
  rw [this]; simp
theorem enc_blank : Lib.encodeRune 32 = [32] := by decide +kernel

/-- Letters answers b at the text t. -/
def LetAt (t : ByteArray) (b : Bool) : Prop := ∀ w, Okw w → Calls Tryd.prog 15 #[.string t] w fun e w' => e = .returned (.bool b) ∧ Below w.heap.size w w'
theorem letAt (t : ByteArray) (b : Bool) (h : t.size ≤ maxLen) (hb : lettersB t.data.toList = b) : LetAt t b := fun w hw => by
  have := letters_any t w h hw.1 hw.2; rwa [hb] at this

theorem ltAt (r : Int) (b : Bool) (h : letterB r = b) (w : World) : Calls Tryd.prog 19 #[.int .i32 r] w fun e w' => e = .returned (.bool b) ∧ w = w' := by
  have := letter_any r w; rwa [h] at this
theorem runs_lit (w : World) (r : Int) : Runs (w.alloc (.cells #[.int .i32 r] 21)) (.slice (some ⟨w.heap.size, 0, none⟩) 1 1) [r] := by
  refine ⟨some ⟨w.heap.size, 0, none⟩, 1, rfl, by simp, ⟨by simp [maxLen], fun h => by cases h⟩, fun _ => ⟨w.heap.size, 0, rfl, by simp, fun j hj => ?_⟩⟩
  obtain rfl : j = 0 := by simp at hj; exact hj
  exact cell_of_row _ _ _ #[.int .i32 r] 21 (0, 0) (heap_alloc_new w _)
def TokCase (vb : Bool) (n : Nat) (er : Int) (m : Nat) : Prop :=
  (vb = false ∧ er = 3 ∧ m = 0) ∨ (vb = true ∧ n = 0 ∧ er = 4 ∧ m = 0) ∨ (vb = true ∧ 64 < n ∧ er = 5 ∧ m = 0) ∨ (vb = true ∧ 0 < n ∧ n ≤ 64 ∧ er = 0 ∧ m = n)
def RuneCase (r : Int) (t : ByteArray) : Prop :=
  (EncAt [r] t 3 ∧ letterB r = false) ∨ (EncAt [r] t 0 ∧ LetAt t (letterB r) ∧ LetAt (t ++ t) (letterB r) ∧ LetAt (t ++ ⟨#[32]⟩) false)

set_option maxRecDepth 100000 in
set_option maxHeartbeats 4000000 in
theorem tokens_gen (s t : ByteArray) (r : Int) (w : World) (h : Okw w) (hS : s.size ≤ 3000) (vb : Bool) (n m : Nat) (er : Int)
    (htok : ∀ w, Okw w → Calls Tryd.prog 12 #[.string s] w fun e w' => ∃ A c, e = .returned (.tuple #[.slice A m c, .int .i64 er]) ∧ Below w.heap.size w w')
    (hcnt : Hid (Lib.runeCount s = n)) (hv : Hid (Lib.validD s.data.toList = vb)) (hcase : TokCase vb n er m) (hr : RuneCase r t) (hn : n ≤ 3000) (ht : t.size ≤ 4) :
    Calls Tryd.prog 8 #[.string s, .int .i32 r] w (RetTrue w) := by
  have C0 := Lib.hid (alive_any w h)
  have hA' : decide ((3000 : Int) < (s.size : Int)) = false := by simp; omega
  go_enter Tryd.func8, Tryd.ntmps8
  go_wp2_with (go_at_call 9; refine C0.out.mono ?_; rintro e w0 ⟨rfl, hb0⟩)
  have h0 := h.below hb0
  refine (htok _ h0).mono ?_
  rintro e w1 ⟨A1, c1, rfl, hb1⟩
  have h1 := h0.below hb1
  have c2 := Tryd.utf8_RuneCountInString s w1 (by omega)
  rw [hcnt.out] at c2
  have C2 := Lib.hid c2
  clear c2
  go_wp2_with fail
  refine C2.out.mono ?_
  rintro e w2 ⟨rfl, pos, rfl⟩
  have hb2 : Below w1.heap.size w1 (w1.iter s pos) := (Below.refl _ _).alloc (Nat.le_refl _) _
  obtain ⟨w2, hw2⟩ : ∃ w2, w1.iter s pos = w2 := ⟨_, rfl⟩
  rw [hw2] at hb2 ⊢
  clear hw2
  have h2 := h1.below hb2
  have c3 := Tryd.utf8_ValidString s w2 (by omega) h2.1
  rw [hv.out] at c3
  have C3 := Lib.hid c3
  clear c3
  go_wp2_with fail
  refine C3.out.mono ?_
  rintro e w3 ⟨rfl, hb3⟩
  have h3 := h2.below hb3
  have hB3 : Below w.heap.size w w3 := hb0.trans ((hb1.trans ((hb2.trans (hb3.mono hb2.size)).mono hb1.size)).mono hb0.size)
  clear hb0 hb1 hb2 hb3 h0 h1 h2 C0 C2 C3
  unfold TokCase at hcase
  rcases hcase with ⟨rfl, rfl, rfl⟩ | ⟨rfl, rfl, rfl, rfl⟩ | ⟨rfl, hn1, rfl, rfl⟩ | ⟨rfl, hn1, hn2, rfl, rfl⟩
  all_goals
    go_wp2_with fail
    have hB4 : Below w.heap.size w (w3.alloc (.cells #[.int .i32 r] 21)) := hB3.alloc hB3.size _
    have h4 : Okw (w3.alloc (.cells #[.int .i32 r] 21)) := h3.below ((Below.refl _ _).alloc (Nat.le_refl _) _)
    unfold RuneCase at hr
    rcases hr with ⟨he, hl⟩ | ⟨he, l1, l2, l3⟩
    · refine (he _ _ (runs_lit w3 r)).mono ?_
      rintro e w5 ⟨rfl, hb5⟩
      have C6 := Lib.hid (ltAt r _ hl w5)
      clear hl
      go_wp2_with (go_at_call 19; refine C6.out.mono ?_; rintro e w6 ⟨rfl, rfl⟩)
      go_ret
      exact ⟨rfl, hB4.trans (hb5.mono hB4.size)⟩
    · refine (he _ _ (runs_lit w3 r)).mono ?_
      rintro e w5 ⟨rfl, hb5⟩
      have h5 := h4.below hb5
      have l4 : LetAt ⟨#[]⟩ false := letAt _ _ (Nat.zero_le _) (by decide +kernel)
      cases hlr : letterB r
      all_goals
        rw [hlr] at l1 l2
        have CL := Lib.hid (ltAt r _ hlr)
        clear hlr
        go_wp2_with fail
        refine (l1 _ h5).mono ?_
        rintro e w6 ⟨rfl, hb6⟩
        have h6 := h5.below hb6
        go_wp2_with fail
        refine (CL.out _).mono ?_
        rintro e w6' ⟨rfl, rfl⟩
        go_wp2_with fail
        refine (l2 _ h6).mono ?_
        rintro e w7 ⟨rfl, hb7⟩
        have h7 := h6.below hb7
        go_wp2_with fail
        refine (CL.out _).mono ?_
        rintro e w7' ⟨rfl, rfl⟩
        go_wp2_with fail
        refine (l3 _ h7).mono ?_
        rintro e w8 ⟨rfl, hb8⟩
        have h8 := h7.below hb8
        go_wp2_with fail
        refine (l4 _ h8).mono ?_
        rintro e w9 ⟨rfl, hb9⟩
        go_wp2
        go_ret
        exact ⟨rfl, hB4.trans ((hb5.trans ((hb6.trans ((hb7.trans ((hb8.trans (hb9.mono hb8.size)).mono hb7.size)).mono hb6.size)).mono hb5.size)).mono hB4.size)⟩

theorem runeCase (r : Int) (hr : -2147483648 ≤ r ∧ r ≤ 2147483647) : ∃ t : ByteArray, t.size ≤ 4 ∧ RuneCase r t := by
  cases hv : Lib.validRune r
  · refine ⟨⟨#[]⟩, by decide, .inl ⟨encAt_no [r] (by simp) (by intro x hx; simp at hx; subst hx; exact hr) (by simp [allRunes, hv]), ?_⟩⟩
    cases h : letterB r
    · rfl
    · rw [letter_valid r h] at hv; cases hv
  · have hl := encodeRune_len r
    have e0 : encL [r] = Lib.encodeRune r := by simp [encL]
    have hsz : (⟨(encL [r]).toArray⟩ : ByteArray).size ≤ 4 := by rw [Lib.size_eq, mk_toList, e0]; omega
    refine ⟨⟨(encL [r]).toArray⟩, hsz, .inr ⟨encAt_yes [r] (by simp) (by simp [allRunes, hv]), letAt _ _ (by unfold maxLen; omega) ?_, letAt _ _ (by rw [app_size]; unfold maxLen; omega) ?_, letAt _ _ (by rw [app_size]; have : (ByteArray.mk #[32]).size = 1 := rfl; unfold maxLen; omega) ?_⟩⟩
    · rw [mk_toList, letters_one r [] hv (by simp)]; simp
    · rw [app_toList, mk_toList, ← encL_append]
      show lettersB (encL (r :: [r])) = _
      rw [letters_one r [r] hv (by simpa using hv)]; simp
    · rw [app_toList, mk_toList]
      have : encL [r] ++ (ByteArray.mk #[32]).data.toList = encL (r :: [32]) := by rw [e0, encL_cons, encL_cons, enc_blank]; rfl
      rw [this, letters_one r [32] hv (by intro x hx; simp at hx; subst hx; decide)]
      have : letterB 32 = false := by decide
      simp [this]

set_option maxRecDepth 100000 in
set_option maxHeartbeats 1000000 in
theorem tokens_walk (s : ByteArray) (r : Int) (w : World) (h : Okw w) (hs : s.size ≤ maxLen) (hr : (Lit.int .i32 r).wf = true) :
    Calls Tryd.prog 8 #[.string s, .int .i32 r] w (RetTrue w) := by
  unfold maxLen at hs
  by_cases hA : 3000 < s.size
  · have C0 := Lib.hid (alive_any w h)
    clear hr
    go_enter Tryd.func8, Tryd.ntmps8
    go_wp2_with (go_at_call 9; refine C0.out.mono ?_; rintro e w0 ⟨rfl, hb0⟩)
    go_ret
    exact ⟨rfl, hb0⟩
  obtain ⟨t, ht, hrc⟩ := runeCase r (bounds_i32 hr)
  have htok : ∀ w, Okw w → Calls Tryd.prog 12 #[.string s] w fun e w' => ∃ A c, e = .returned (.tuple #[.slice A (tokRunes s.data.toList).length c, .int .i64 (tokErr s.data.toList)]) ∧ Below w.heap.size w w' := fun w hw =>
    (token_any s w (by omega) hw.1 hw.2).mono fun e w' ⟨A, c, he, _, hb⟩ => ⟨A, c, he, hb⟩
  have hn : Lib.runeCount s ≤ 3000 := Nat.le_trans (Lib.runeCount_le s) (by omega)
  refine tokens_gen s t r w h (by omega) _ _ _ _ htok (Lib.hid rfl) (Lib.hid rfl) ?_ hrc hn ht
  unfold TokCase
  cases hv : Lib.validD s.data.toList
  · left; refine ⟨rfl, by simp [tokErr, hv], by simp [tokRunes, tokErr, hv]⟩
  · right
    have hc := count_valid s hv
    rw [hc]
    by_cases h0 : (items s.data.toList).length = 0
    · left; refine ⟨rfl, h0, by simp [tokErr, hv, h0], by simp [tokRunes, tokErr, hv, h0]⟩
    · right
      by_cases h1 : 64 < (items s.data.toList).length
      · left; refine ⟨rfl, h1, by simp [tokErr, hv, h0, h1], by simp [tokRunes, tokErr, hv, h0, h1]⟩
      · right; refine ⟨rfl, by omega, by omega, by simp [tokErr, hv, h0, h1], by simp [tokRunes, tokErr, hv, h0, h1]⟩
end Go.Proofs.YtnacllcajadnoaaDoor
