/- Words for the laws of layer 2: rows of texts one behind the other, what Spans, Tokens and Texts answer at a text. -/
import Derived.Test.YtephhejfkihhgaaDoorTPlain3
import Derived.Test.YtephhejfkihhgaaDoorTokens
import Derived.OwnWalk
namespace Go.Proofs.YtephhejfkihhgaaDoor
open Go.RowKit Go.Shelf

/-- append(v, u...) of a row of texts of the call's own and a list of texts. -/
theorem append_texts (w : World) (base : Nat) (v : Value) (n : Nat) (xs : List Value) (hown : w.ownsRow base 9 1 v n xs) (u : Value) (ys : List ByteArray) (hu : TRuns w u ys) (hbase : base ≤ w.heap.size) (hlen : (n + ys.length) * 16 ≤ 140737488355328) :
    ∃ v' w', (Builtin.append_ #[27, 27] 27 #[v, u]).run Tryd.prog w = .ok v' w' ∧ w'.ownsRow base 9 1 v' (n + ys.length) (xs ++ ys.map Value.string) ∧ w.grownBy w' v.ownBlock ∧ (v'.ownBlock = v.ownBlock ∨ v'.ownBlock = some w.heap.size) := by
  obtain ⟨i0, hi, hz0, hz1, hz2⟩ := info_parts info_str
  obtain ⟨A, c, rfl, hxc, ⟨hxm, hc0⟩, hxx⟩ := hu
  cases A with
  | none =>
    obtain rfl := hc0 rfl
    have h0 : ys = [] := List.eq_nil_of_length_eq_zero (by omega)
    subst h0
    exact ⟨v, w, run_append_owned_none (P := Tryd.prog) (w := w) base 27 27 9 i0 1 Tryd.underlying27 hi v n xs hown, by simpa using hown, World.grownBy.refl w _, .inl rfl⟩
  | some ad =>
    have hcells : ∀ j u, (ys.map Value.string)[j]? = some u → w.cell? (ad.add j) = some u := by
      intro j u hj
      rw [List.getElem?_map] at hj
      obtain ⟨z, hz, rfl⟩ := Option.map_eq_some_iff.1 hj
      obtain ⟨hjl, hjz⟩ := List.getElem?_eq_some_iff.1 hz
      obtain ⟨b, o, e, _, hc⟩ := hxx (by omega)
      injection e with e
      subst e
      rw [addr_add, hc j hjl, List.getD_eq_getElem?_getD, hz]
      rfl
    obtain ⟨v', w', hrun, h2, h3, _, h5⟩ := run_append_own_at (P := Tryd.prog) w base 27 27 9 i0 _ 1 16 Tryd.underlying27 hi hz0 hz1 hz2 rfl (by decide) v n xs hown ad ys.length c (ys.map Value.string) (by simp) hcells (fun u hu => by obtain ⟨z, _, rfl⟩ := List.mem_map.1 hu; rfl) (by unfold maxLen; omega) hlen hbase
    exact ⟨v', w', hrun, h2, h3, h5⟩
theorem own_litT (w : World) : (w.alloc (.cells #[] 9)).ownsRow w.heap.size 9 1 (.slice (some ⟨w.heap.size, 0, none⟩) 0 0) 0 [] :=
  ⟨by simp, .inr ⟨w.heap.size, 0, #[], rfl, Nat.le_refl _, heap_alloc_new w _, Nat.le_refl _, by simp [maxLen], by simp, by simp⟩⟩
theorem truns_lit (w : World) (x : ByteArray) : TRuns (w.alloc (.cells #[.string x] 9)) (.slice (some ⟨w.heap.size, 0, none⟩) 1 1) [x] := by
  refine ⟨some ⟨w.heap.size, 0, none⟩, 1, rfl, by simp, ⟨by simp [maxLen], fun h => by cases h⟩, fun _ => ⟨w.heap.size, 0, rfl, by simp, fun j hj => ?_⟩⟩
  obtain rfl : j = 0 := by simp at hj; exact hj
  exact cell_of_row _ _ _ #[.string x] 9 (0, 0) (heap_alloc_new w _)
theorem truns_lit2 (w : World) (x y : ByteArray) : TRuns (w.alloc (.cells #[.string x, .string y] 9)) (.slice (some ⟨w.heap.size, 0, none⟩) 2 2) [x, y] := by
  refine ⟨some ⟨w.heap.size, 0, none⟩, 2, rfl, by simp, ⟨by simp [maxLen], fun h => by cases h⟩, fun _ => ⟨w.heap.size, 0, rfl, by simp, fun j hj => ?_⟩⟩
  have : j = 0 ∨ j = 1 := by simp at hj; omega
  rcases this with rfl | rfl
  · exact cell_of_row _ _ _ #[.string x, .string y] 9 (0, 0) (heap_alloc_new w _)
  · exact cell_of_row _ _ _ #[.string x, .string y] 9 (0, 0) (heap_alloc_new w _)

/-- Tokens answers the texts ts and the error er at the document s. -/
def TokAt (s : ByteArray) (ts : List ByteArray) (er : Int) : Prop := ∀ w, Okw w → Calls Tryd.prog 13 #[.string s] w fun e w' => ∃ A c, e = .returned (.tuple #[.slice A ts.length c, .int .i64 er]) ∧ TRuns w' (.slice A ts.length c) ts ∧ Below w.heap.size w w'
theorem tokAt (s : ByteArray) : TokAt s (docTokS s) (docErr s.data.toList) := fun w h => tokens_any s w h
theorem tokAt_yes (s : ByteArray) (h : s.size ≤ 1048576) (hv : Lib.validD s.data.toList = true) : TokAt s ((tk [] (items s.data.toList)).map mkS) 0 := by
  have := tokAt s; rw [docTok_tk s (doc_of s h hv), doc_of s h hv] at this; exact this
theorem tokAt_no (s : ByteArray) (h : s.size ≤ 1048576) (hv : Lib.validD s.data.toList = false) : TokAt s [] 3 := by
  have hd := doc_bad s h hv
  have := tokAt s; rw [docTok_none s (by rw [hd]; decide), hd] at this; exact this
/-- Spans answers the pieces l and the error er at the document s. -/
def SpAt (s : ByteArray) (l : List Sp) (er : Int) : Prop := ∀ w, Okw w → Calls Tryd.prog 11 #[.string s] w fun e w' => ∃ A c, e = .returned (.tuple #[.slice A l.length c, .int .i64 er]) ∧ SRuns w' (.slice A l.length c) l ∧ Below w.heap.size w w'
theorem spAt (s : ByteArray) : SpAt s (docSpans s.data.toList) (docErr s.data.toList) := fun w h => spans_any s w h
/-- Texts of two rows that are the same. -/
theorem texts_self (u v : Value) (x : List ByteArray) (w : World) (hx : TRuns w u x) (hy : TRuns w v x) :
    Calls Tryd.prog 16 #[u, v] w fun e w' => e = .returned (.bool true) ∧ Below w.heap.size w w' := by
  have := texts_any u v x x w hx hy
  rw [decide_eq_true rfl] at this
  exact this.mono fun e w' h => ⟨h.1, h.2.below _⟩

/-- Bytes that are no text, with bytes behind them that begin no rune's inside, are none. -/
theorem join_bad2 (a b : List UInt8) (ha : Lib.validD a = false) (hb : b ≠ [] → (b.getD 0 0).toNat / 64 ≠ 2) : Lib.validD (a ++ b) = false := by
  revert ha
  refine byRunes (C := fun a => Lib.validD a = false → Lib.validD (a ++ b) = false) ?_ ?_ ?_ a
  · intro h; rw [Lib.validD_nil] at h; cases h
  · intro a hne hbad _
    have hne2 : a ++ b ≠ [] := by simp [hne]
    rw [valid_step _ hne2]
    cases h : badB (a ++ b) with
    | true => rfl
    | false =>
      exfalso
      obtain ⟨r, t, hr, e⟩ := good_form _ hne2 h
      have hl := encodeRune_len r
      by_cases hk : (Lib.encodeRune r).length ≤ a.length
      · have : a = Lib.encodeRune r ++ a.drop (Lib.encodeRune r).length := by
          have h1 := congrArg (List.take (Lib.encodeRune r).length) e
          rw [List.take_append_of_le_length hk, List.take_left] at h1
          have h2 := List.take_append_drop (Lib.encodeRune r).length a
          rw [h1] at h2; exact h2.symm
        rw [this, not_bad_enc r _ hr] at hbad
        cases hbad
      · have hal : 0 < a.length := List.length_pos_iff.2 hne
        have hbne : b ≠ [] := by
          rintro rfl
          have := congrArg List.length e
          simp at this; omega
        have h1 := tail_cont r hr a.length hal (by omega)
        have h2 := hb hbne
        have h3 : (a ++ b).getD a.length 0 = b.getD 0 0 := by
          rw [List.getD_eq_getElem?_getD, List.getElem?_append_right (Nat.le_refl _), Nat.sub_self, ← List.getD_eq_getElem?_getD]
        have h4 : (a ++ b).getD a.length 0 = (Lib.encodeRune r).getD a.length 0 := by
          rw [e, List.getD_eq_getElem?_getD, List.getElem?_append_left (by omega), ← List.getD_eq_getElem?_getD]
        rw [← h4, h3] at h1
        exact h2 h1
  · intro a hne hgood ih hv
    obtain ⟨r, t, hr, rfl⟩ := good_form a hne hgood
    rw [decode_encode r t hr] at ih
    simp only [List.drop_left] at ih
    rw [List.append_assoc, (items_enc r (t ++ b) hr).2]
    rw [(items_enc r t hr).2] at hv
    exact ih hv
theorem items_byte (c : UInt8) (hc : c.toNat < 128) (t : List UInt8) : items (c :: t) = (c.toNat : Int) :: items t ∧ Lib.validD (c :: t) = Lib.validD t := by
  have he : Lib.encodeRune (c.toNat : Int) = [c] := by
    rw [Lib.encodeRune, Lib.encodeRuneZ_one (by omega) (by omega)]; simp
  have := items_enc (c.toNat : Int) t (by simp [Lib.validRune]; omega)
  rw [he] at this
  exact this
theorem tk_le (xs : List Int) : ∀ cur, (tk cur xs).length ≤ xs.length + 1 := by
  induction xs with
  | nil => intro cur; unfold tk; split <;> simp
  | cons r xs ih =>
    intro cur
    unfold tk
    split
    · have := ih (cur ++ [r]); simp only [List.length_cons]; omega
    · have := ih []
      rw [List.length_append]
      have h2 : (if cur = [] then ([] : List (List Int)) else [cur]).length ≤ 1 := by split <;> simp
      simp only [List.length_cons]; omega
theorem tok_le (s : ByteArray) : ((tk [] (items s.data.toList)).map mkS).length ≤ s.size + 1 := by
  have h1 := tk_le (items s.data.toList) []
  have h2 := items_le s.data.toList
  rw [← Lib.size_eq] at h2
  rw [List.length_map]; omega
theorem letters_parts (s : ByteArray) (h : lettersB s.data.toList = true) : Lib.validD s.data.toList = true ∧ items s.data.toList ≠ [] ∧ (∀ r ∈ items s.data.toList, letterB r = true) ∧ s.data.toList ≠ [] := by
  have hall : (items s.data.toList).all letterB = true ∧ s.data.toList ≠ [] := by
    unfold lettersB at h; rw [Bool.and_eq_true] at h
    exact ⟨h.2, fun e => by rw [e] at h; simp at h⟩
  have h1 := List.all_eq_true.1 hall.1
  refine ⟨(items_valid _).1 (fun x hx => ?_), fun e => hall.2 ((items_eq_nil _).1 e), h1, hall.2⟩
  rintro rfl
  have := h1 _ hx
  rw [show letterB (-1) = false by decide] at this; cases this
end Go.Proofs.YtephhejfkihhgaaDoor
