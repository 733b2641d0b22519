/- The law TextLetters, walked: a text of letters is one token; with a sign that is none within, two; signs that are none alone are no token. -/
import Derived.Test.YtephhejfkihhgaaDoorTLaw
namespace Go.Proofs.YtephhejfkihhgaaDoor
open Go.RowKit Go.Shelf

set_option maxRecDepth 100000 in
set_option maxHeartbeats 4000000 in
theorem letters_gen (s o : ByteArray) (w : World) (h : Okw w) (hA : s.size ≤ 500) (hB : o.size ≤ 500) (xs : List Int) (er : Int)
    (hl : LetAt s true) (d1 : TokAt s [s] 0) (d2 : TokAt (s ++ ⟨#[55]⟩ ++ s) [s, s] 0) (d3 : DecAt o xs er)
    (hfin : Hid ((∀ r ∈ xs, letterB r = false) → (er = 0 ∧ TokAt o [] 0 ∧ TokAt (o ++ s ++ o) [s] 0) ∨ (er = 3 ∧ TokAt o [] 3 ∧ TokAt (o ++ s ++ o) [] 3))) :
    Calls Tryd.prog 9 #[.string s, .string o] w (RetTrue w) := by
  have C0 := Lib.hid (alive2_any w h)
  have hA' : decide ((500 : Int) < (s.size : Int)) = false := by simp; omega
  have hB' : decide ((500 : Int) < (o.size : Int)) = false := by simp; omega
  go_enter Tryd.func9, Tryd.ntmps9
  go_wp2_with (go_at_call 10; refine C0.out.mono ?_; rintro e w0 ⟨rfl, hb0⟩)
  have h0 := h.below hb0
  refine (hl _ h0).mono ?_
  rintro e w1 ⟨rfl, hb1⟩
  have h1 := h0.below hb1
  go_wp2_with fail
  refine (d1 _ h1).mono ?_
  rintro e w2 ⟨A2, c2, rfl, hr2, hb2⟩
  have h2 := h1.below hb2
  go_wp2_with fail
  refine (d2 _ h2).mono ?_
  rintro e w3 ⟨A3, c3, rfl, hr3, hb3⟩
  have h3 := h2.below hb3
  have hB3 : Below w.heap.size w w3 := hb0.trans ((hb1.trans ((hb2.trans (hb3.mono hb2.size)).mono hb1.size)).mono hb0.size)
  have hba : Below w3.heap.size w3 (w3.alloc (.cells #[.string s] 9)) := (Below.refl _ _).alloc (Nat.le_refl _) _
  have C4 := Lib.hid (texts_self _ _ [s] _ ((hr2.below hb3).below hba) (truns_lit w3 s))
  clear hb0 hb1 hb2 hb3 h0 h1 h2 hr2
  go_wp2_with fail
  refine C4.out.mono ?_
  rintro e w4 ⟨rfl, hb4⟩
  have hb34 : Below w3.heap.size w3 w4 := hba.trans (hb4.mono hba.size)
  have hba4 : Below w4.heap.size w4 (w4.alloc (.cells #[.string s, .string s] 9)) := (Below.refl _ _).alloc (Nat.le_refl _) _
  have C5 := Lib.hid (texts_self _ _ [s, s] _ ((hr3.below hb34).below hba4) (truns_lit2 w4 s s))
  clear C4 hr3
  go_wp2_with fail
  refine C5.out.mono ?_
  rintro e w5 ⟨rfl, hb5⟩
  have hb35 : Below w3.heap.size w3 w5 := hb34.trans ((hba4.trans (hb5.mono hba4.size)).mono hb34.size)
  have h5 := h3.below hb35
  have hB5 : Below w.heap.size w w5 := hB3.trans (hb35.mono hB3.size)
  clear C5 hb34 hba hba4 hb4 hb5 hb35 h3 hB3
  go_wp2_with fail
  refine (d3 _ h5).mono ?_
  rintro e w6 ⟨A6, c6, rfl, hr6, hb6⟩
  have h6 := h5.below hb6
  have hB6 : Below w.heap.size w w6 := hB5.trans (hb6.mono hB5.size)
  clear h5 hB5 hb6
  obtain ⟨n, hn⟩ : ∃ n, xs.length = n := ⟨_, rfl⟩
  rw [hn] at hr6 ⊢
  obtain ⟨A', c', e', hxc, ⟨hxm, _⟩, hxx⟩ := hr6
  rw [hn] at e' hxc hxx
  have Hn := Lib.hid hn
  obtain ⟨rfl, rfl⟩ : A6 = A' ∧ c6 = c' := by simpa using e'
  unfold maxLen at hxm
  have HX := Lib.hid hxx
  clear e' hxx hn
  go_wp2
  go_loopw [73] (fun s73 wr => ∃ k : Nat, k ≤ n ∧ s73 = .int .i64 k ∧ w6 = wr ∧ Hid (∀ r ∈ xs.take k, letterB r = false)) (fun s73 _ => n - (intOf s73).toNat)
  case atStart => exact ⟨0, Nat.zero_le _, rfl, rfl, Lib.hid (by simp)⟩
  case round =>
    obtain ⟨k, hk, rfl, rfl, HA⟩ := hrel
    by_cases hlt : k < n
    · obtain ⟨b, o1, rfl, hb, hc1⟩ := HX.out (by omega)
      have e1 := hc1 k hlt
      have t1 : xs.take (k + 1) = xs.take k ++ [xs.getD k 0] := by
        rw [List.take_succ_eq_append_getElem (by rw [Hn.out]; exact hlt)]; simp [List.getD_eq_getElem?_getD, Hn.out, hlt]
      obtain ⟨r, hr⟩ : ∃ r, xs.getD k 0 = r := ⟨_, rfl⟩
      rw [hr] at e1 t1
      have T1 := Lib.hid t1
      clear hr hc1 t1
      have i1 : (k : Int) < (n : Int) := by omega
      cases hlb : letterB r
      · have HL := Lib.hid hlb
        have CL := Lib.hid (ltAt r _ hlb w6)
        clear hlb
        go_wp2_with (go_at_call 22; refine CL.out.mono ?_; rintro e w' ⟨rfl, rfl⟩)
        go_roundw
        case rel => exact ⟨k + 1, by omega, by go_num, by first | rfl | trivial, Lib.hid (by rw [T1.out]; intro q hq; rcases List.mem_append.1 hq with hq | hq; exact HA.out q hq; simp at hq; rw [hq]; exact HL.out)⟩
        case measure => simp [intOf]; omega
      · have CL := Lib.hid (ltAt r _ hlb w6)
        clear hlb
        go_wp2_with (go_at_call 22; refine CL.out.mono ?_; rintro e w' ⟨rfl, rfl⟩)
        go_ret
        exact ⟨rfl, hB6⟩
    · obtain rfl : n = k := by omega
      have hnone := HA.out
      rw [List.take_of_length_le (by rw [Hn.out]; exact Nat.le_refl _)] at hnone
      rcases hfin.out hnone with ⟨rfl, f1, f2⟩ | ⟨rfl, f1, f2⟩
      · clear hnone
        go_wp2_with fail
        refine (f1 _ h6).mono ?_
        rintro e w7 ⟨A7, c7, rfl, hr7, hb7⟩
        have h7 := h6.below hb7
        go_wp2_with fail
        refine (f2 _ h7).mono ?_
        rintro e w8 ⟨A8, c8, rfl, hr8, hb8⟩
        have hba8 : Below w8.heap.size w8 (w8.alloc (.cells #[.string s] 9)) := (Below.refl _ _).alloc (Nat.le_refl _) _
        have C9 := Lib.hid (texts_self _ _ [s] _ (hr8.below hba8) (truns_lit w8 s))
        clear hr7 hr8
        go_wp2_with (go_at_call 16; refine C9.out.mono ?_; rintro e w9 ⟨rfl, hb9⟩)
        go_ret
        have hb79 : Below w6.heap.size w6 w9 := hb7.trans ((hb8.trans ((hba8.trans (hb9.mono hba8.size)).mono hb8.size)).mono hb7.size)
        exact ⟨rfl, hB6.trans (hb79.mono hB6.size)⟩
      · clear hnone
        go_wp2_with fail
        refine (f1 _ h6).mono ?_
        rintro e w7 ⟨A7, c7, rfl, hr7, hb7⟩
        have h7 := h6.below hb7
        go_wp2_with fail
        refine (f2 _ h7).mono ?_
        rintro e w8 ⟨A8, c8, rfl, hr8, hb8⟩
        clear hr7 hr8
        go_wp2
        go_ret
        have hb78 : Below w6.heap.size w6 w8 := hb7.trans (hb8.mono hb7.size)
        exact ⟨rfl, hB6.trans (hb78.mono hB6.size)⟩

set_option maxRecDepth 100000 in
set_option maxHeartbeats 1000000 in
theorem letters_walk (s o : ByteArray) (w : World) (h : Okw w) (hs : s.size ≤ maxLen) (ho : o.size ≤ maxLen) :
    Calls Tryd.prog 9 #[.string s, .string o] w (RetTrue w) := by
  by_cases hA : 500 < s.size
  · have C0 := Lib.hid (alive2_any w h)
    unfold maxLen at hs ho
    go_enter Tryd.func9, Tryd.ntmps9
    go_wp2_with (go_at_call 10; refine C0.out.mono ?_; rintro e w0 ⟨rfl, hb0⟩)
    go_ret
    exact ⟨rfl, hb0⟩
  by_cases hB : 500 < o.size
  · have C0 := Lib.hid (alive2_any w h)
    unfold maxLen at hs ho
    have hA' : decide ((500 : Int) < (s.size : Int)) = false := by simp; omega
    go_enter Tryd.func9, Tryd.ntmps9
    go_wp2_with (go_at_call 10; refine C0.out.mono ?_; rintro e w0 ⟨rfl, hb0⟩)
    go_ret
    exact ⟨rfl, hb0⟩
  cases hl : lettersB s.data.toList
  · have C0 := Lib.hid (alive2_any w h)
    have c1 := letAt s false hs hl
    unfold maxLen at hs ho
    have hA' : decide ((500 : Int) < (s.size : Int)) = false := by simp; omega
    have hB' : decide ((500 : Int) < (o.size : Int)) = false := by simp; omega
    clear hl
    go_enter Tryd.func9, Tryd.ntmps9
    go_wp2_with (go_at_call 10; refine C0.out.mono ?_; rintro e w0 ⟨rfl, hb0⟩)
    refine (c1 _ (h.below hb0)).mono ?_
    rintro e w1 ⟨rfl, hb1⟩
    go_wp2
    go_ret
    exact ⟨rfl, hb0.trans (hb1.mono hb0.size)⟩
  · obtain ⟨hv, hne, hlet, hdn⟩ := letters_parts s hl
    have hms := mkS_items s hv
    have t1 : (tk [] (items s.data.toList)).map mkS = [s] := by rw [tk_word _ hne hlet]; simp [hms]
    have d1 := tokAt_yes s (by omega) hv
    rw [t1] at d1
    have hz : (s ++ ⟨#[55]⟩ ++ s).data.toList = s.data.toList ++ 55 :: s.data.toList := by rw [app_toList, app_toList]; simp
    have hj := items_join s.data.toList (55 :: s.data.toList) hv
    have hby := items_byte 55 (by decide) s.data.toList
    have hzs : (s ++ ⟨#[55]⟩ ++ s).size ≤ 1048576 := by rw [app_size, app_size]; have : (ByteArray.mk #[55]).size = 1 := rfl; omega
    have d2 := tokAt_yes (s ++ ⟨#[55]⟩ ++ s) hzs (by rw [hz, hj.2, hby.2]; exact hv)
    rw [hz, hj.1, hby.1] at d2
    rw [show ((55 : UInt8).toNat : Int) = 55 by decide, tk_sep 55 (by decide), List.map_append, t1] at d2
    have hos : (o ++ s ++ o).size ≤ 1048576 := by rw [app_size, app_size]; omega
    have hod : (o ++ s ++ o).data.toList = o.data.toList ++ (s.data.toList ++ o.data.toList) := by rw [app_toList, app_toList]; simp
    refine letters_gen s o w h (by omega) (by omega) _ _ (letAt s true hs hl) d1 d2 (decAt o (by omega)) (Lib.hid fun hno => ?_)
    cases vo : Lib.validD o.data.toList
    · right
      refine ⟨by simp [decErr, vo], tokAt_no o (by omega) vo, tokAt_no _ hos ?_⟩
      rw [hod]
      refine join_bad2 _ _ vo (fun _ => ?_)
      have := valid_head s.data.toList hdn hv
      rw [List.getD_eq_getElem?_getD, List.getElem?_append_left (List.length_pos_iff.2 hdn), ← List.getD_eq_getElem?_getD]
      exact this
    · left
      have hnr : ∀ r ∈ items o.data.toList, letterB r = false := by have := hno; simp only [decRunes, vo, if_true] at this; exact this
      have hj1 := items_join o.data.toList (s.data.toList ++ o.data.toList) vo
      have hj2 := items_join s.data.toList o.data.toList hv
      refine ⟨by simp [decErr, vo], ?_, ?_⟩
      · have := tokAt_yes o (by omega) vo
        rw [tk_end _ hnr] at this
        simpa using this
      · have := tokAt_yes (o ++ s ++ o) hos (by rw [hod, hj1.2, hj2.2]; exact vo)
        rw [hod, hj1.1, hj2.1, tk_signs _ hnr, tk_letters _ hlet, tk_end _ hnr] at this
        simpa [hne, hms] using this
end Go.Proofs.YtephhejfkihhgaaDoor
