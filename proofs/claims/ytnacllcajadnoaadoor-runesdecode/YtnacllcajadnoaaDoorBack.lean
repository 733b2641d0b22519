/- The law RunesBack, walked: what is encoded is decoded, what is decoded is encoded as it was. -/
import Derived.Test.YtnacllcajadnoaaDoorJoin
import Derived.Test.YtnacllcajadnoaaDoorEncode
namespace Go.Proofs.YtnacllcajadnoaaDoor
open Go.RowKit Go.Shelf

theorem mk_toList (l : List UInt8) : (ByteArray.mk l.toArray).data.toList = l := by simp
theorem mk_data (s : ByteArray) (l : List UInt8) (h : l = s.data.toList) : (⟨l.toArray⟩ : ByteArray) = s := by subst h; rfl
theorem rune_i32 {r : Int} (h : Lib.validRune r = true) : -2147483648 ≤ r ∧ r ≤ 2147483647 := by have := rune_bd h; omega

/-- Encode answers the text t and the error er at the list l. -/
def EncAt (l : List Int) (t : ByteArray) (er : Int) : Prop := ∀ w u, Runs w u l → Calls Tryd.prog 17 #[u] w fun e w' => e = .returned (.tuple #[.string t, .int .i64 er]) ∧ Below w.heap.size w w'
theorem encAt_yes (l : List Int) (hlen : l.length * 4 + 4 ≤ 140737488355328) (hv : allRunes l = true) : EncAt l ⟨(encL l).toArray⟩ 0 := fun w u hu => by
  have := encode_any u l w hu hlen (fun x hx => rune_i32 (List.all_eq_true.1 hv x hx))
  simpa [encS, encErr, hv] using this
theorem encAt_no (l : List Int) (hlen : l.length * 4 + 4 ≤ 140737488355328) (hwf : ∀ x ∈ l, -2147483648 ≤ x ∧ x ≤ 2147483647) (hv : allRunes l = false) : EncAt l ⟨#[]⟩ 3 := fun w u hu => by
  have := encode_any u l w hu hlen hwf
  simpa [encS, encErr, hv] using this

set_option maxRecDepth 100000 in
set_option maxHeartbeats 2000000 in
theorem back_yes (A : Option Addr) (n c : Nat) (l : List Int) (hn : Hid (l.length = n)) (s t : ByteArray) (w : World) (h : Okw w) (hu : Runs w (.slice A n c) l) (hN : n ≤ 3000) (hS : s.size ≤ 5000) (ht : t.size ≤ 12000)
    (xs : List Int) (es : Int) (e1 : EncAt l t 0) (d1 : DecAt t l 0) (v1 : Lib.validD t.data.toList = true)
    (ds : DecAt s xs es) (hs : (es = 0 ∧ Lib.validD s.data.toList = true ∧ EncAt xs s 0) ∨ (es = 3 ∧ Lib.validD s.data.toList = false ∧ xs = [])) :
    Calls Tryd.prog 5 #[.slice A n c, .string s] w (RetTrue w) := by
  have C0 := Lib.hid (alive_any w h)
  have hA' : decide ((3000 : Int) < (n : Int)) = false := by simp; omega
  have hB' : decide ((5000 : Int) < (s.size : Int)) = false := by simp; omega
  have HS := Lib.hid hs
  have V1 := Lib.hid v1
  clear hs v1
  go_enter Tryd.func5, Tryd.ntmps5
  go_wp2_with (go_at_call 9; refine C0.out.mono ?_; rintro e w0 ⟨rfl, hb0⟩)
  have h0 := h.below hb0
  refine (e1 _ _ (hu.below hb0)).mono ?_
  rintro e w1 ⟨rfl, hb1⟩
  have h1 := h0.below hb1
  go_wp2_with fail
  refine (d1 _ h1).mono ?_
  rw [hn.out]
  rintro e w2 ⟨A2, c2, rfl, hr2, hb2⟩
  have h2 := h1.below hb2
  have c3 := same_any _ _ _ _ w2 hr2 (((hu.below hb0).below hb1).below hb2)
  rw [decide_eq_true rfl] at c3
  have C3 := Lib.hid c3
  clear c3
  go_wp2_with fail
  refine C3.out.mono ?_
  rintro e w3 ⟨rfl, hd3⟩
  have hb3 := hd3.below w2.heap.size
  have h3 := h2.below hb3
  have c4 := Tryd.utf8_ValidString t w3 (by omega) h3.1
  rw [V1.out] at c4
  have C4 := Lib.hid c4
  clear c4 hd3
  go_wp2_with fail
  refine C4.out.mono ?_
  rintro e w4 ⟨rfl, hb4⟩
  have h4 := h3.below hb4
  go_wp2_with fail
  refine (ds _ h4).mono ?_
  rintro e w5 ⟨A5, c5, rfl, hr5, hb5⟩
  have h5 := h4.below hb5
  have c6 := Tryd.utf8_ValidString s w5 (by omega) h5.1
  have hB5 : Below w.heap.size w w5 := hb0.trans ((hb1.trans ((hb2.trans ((hb3.trans ((hb4.trans (hb5.mono hb4.size)).mono hb3.size)).mono hb2.size)).mono hb1.size)).mono hb0.size)
  rcases HS.out with ⟨rfl, hv, he⟩ | ⟨rfl, hv, rfl⟩
  · rw [hv] at c6
    have C6 := Lib.hid c6
    clear c6 hv
    go_wp2_with fail
    refine C6.out.mono ?_
    rintro e w6 ⟨rfl, hb6⟩
    go_wp2_with fail
    refine (he _ _ (hr5.below hb6)).mono ?_
    rintro e w7 ⟨rfl, hb7⟩
    go_wp2
    go_ret
    exact ⟨by simp, hB5.trans ((hb6.trans (hb7.mono hb6.size)).mono hB5.size)⟩
  · rw [hv] at c6
    have C6 := Lib.hid c6
    clear c6 hv
    go_wp2_with fail
    refine C6.out.mono ?_
    rintro e w6 ⟨rfl, hb6⟩
    go_wp2
    go_ret
    exact ⟨by simp, hB5.trans (hb6.mono hB5.size)⟩

set_option maxRecDepth 100000 in
set_option maxHeartbeats 2000000 in
theorem back_no (A : Option Addr) (n c : Nat) (l : List Int) (s : ByteArray) (w : World) (h : Okw w) (hu : Runs w (.slice A n c) l) (hN : n ≤ 3000) (hS : s.size ≤ 5000)
    (xs : List Int) (es : Int) (e1 : EncAt l ⟨#[]⟩ 3)
    (ds : DecAt s xs es) (hs : (es = 0 ∧ Lib.validD s.data.toList = true ∧ EncAt xs s 0) ∨ (es = 3 ∧ Lib.validD s.data.toList = false ∧ xs = [])) :
    Calls Tryd.prog 5 #[.slice A n c, .string s] w (RetTrue w) := by
  have C0 := Lib.hid (alive_any w h)
  have hA' : decide ((3000 : Int) < (n : Int)) = false := by simp; omega
  have hB' : decide ((5000 : Int) < (s.size : Int)) = false := by simp; omega
  have HS := Lib.hid hs
  clear hs
  go_enter Tryd.func5, Tryd.ntmps5
  go_wp2_with (go_at_call 9; refine C0.out.mono ?_; rintro e w0 ⟨rfl, hb0⟩)
  have h0 := h.below hb0
  refine (e1 _ _ (hu.below hb0)).mono ?_
  rintro e w1 ⟨rfl, hb1⟩
  have h1 := h0.below hb1
  go_wp2_with fail
  refine (ds _ h1).mono ?_
  rintro e w5 ⟨A5, c5, rfl, hr5, hb5⟩
  have h5 := h1.below hb5
  have c6 := Tryd.utf8_ValidString s w5 (by omega) h5.1
  have hB5 : Below w.heap.size w w5 := hb0.trans ((hb1.trans (hb5.mono hb1.size)).mono hb0.size)
  rcases HS.out with ⟨rfl, hv, he⟩ | ⟨rfl, hv, rfl⟩
  · rw [hv] at c6
    have C6 := Lib.hid c6
    clear c6 hv
    go_wp2_with fail
    refine C6.out.mono ?_
    rintro e w6 ⟨rfl, hb6⟩
    go_wp2_with fail
    refine (he _ _ (hr5.below hb6)).mono ?_
    rintro e w7 ⟨rfl, hb7⟩
    go_wp2
    go_ret
    exact ⟨by simp, hB5.trans ((hb6.trans (hb7.mono hb6.size)).mono hB5.size)⟩
  · rw [hv] at c6
    have C6 := Lib.hid c6
    clear c6 hv
    go_wp2_with fail
    refine C6.out.mono ?_
    rintro e w6 ⟨rfl, hb6⟩
    go_wp2
    go_ret
    exact ⟨by simp, hB5.trans (hb6.mono hB5.size)⟩

set_option maxRecDepth 100000 in
set_option maxHeartbeats 1000000 in
theorem back_walk (u : Value) (l : List Int) (s : ByteArray) (w : World) (h : Okw w) (hu : Runs w u l ∧ ∀ x ∈ l, -2147483648 ≤ x ∧ x ≤ 2147483647) (hs : s.size ≤ maxLen) :
    Calls Tryd.prog 5 #[u, .string s] w (RetTrue w) := by
  obtain ⟨hu, hwf⟩ := hu
  have hu' := hu
  obtain ⟨A, c, rfl, hlc, ⟨hcm, _⟩, _⟩ := hu'
  obtain ⟨n, hn⟩ : ∃ n, l.length = n := ⟨_, rfl⟩
  rw [hn] at hu hlc ⊢
  have Hn := Lib.hid hn
  clear hn
  unfold maxLen at hs hcm
  have C0 := Lib.hid (alive_any w h)
  by_cases hA : 3000 < n
  · go_enter Tryd.func5, Tryd.ntmps5
    go_wp2_with (go_at_call 9; refine C0.out.mono ?_; rintro e w0 ⟨rfl, hb0⟩)
    go_ret
    exact ⟨rfl, hb0⟩
  by_cases hB : 5000 < s.size
  · have hA' : decide ((3000 : Int) < (n : Int)) = false := by simp; omega
    go_enter Tryd.func5, Tryd.ntmps5
    go_wp2_with (go_at_call 9; refine C0.out.mono ?_; rintro e w0 ⟨rfl, hb0⟩)
    go_ret
    exact ⟨rfl, hb0⟩
  have hll : l.length * 4 + 4 ≤ 140737488355328 := by rw [Hn.out]; omega
  have hsd : ∃ xs es, DecAt s xs es ∧ ((es = 0 ∧ Lib.validD s.data.toList = true ∧ EncAt xs s 0) ∨ (es = 3 ∧ Lib.validD s.data.toList = false ∧ xs = [])) := by
    cases vs : Lib.validD s.data.toList
    · exact ⟨_, _, decAt_no s (by omega) vs, .inr ⟨rfl, rfl, rfl⟩⟩
    · refine ⟨_, _, decAt_yes s (by omega) vs, .inl ⟨rfl, rfl, ?_⟩⟩
      have hl := items_le s.data.toList
      rw [← Lib.size_eq] at hl
      have := encAt_yes (items s.data.toList) (by omega) (List.all_eq_true.2 (items_runes _ vs))
      rwa [mk_data s _ (enc_items _ vs)] at this
  obtain ⟨xs, es, d, hd⟩ := hsd
  cases va : allRunes l
  · exact back_no A n c l s w h hu (by omega) (by omega) xs es (encAt_no l hll hwf va) d hd
  · have hr : ∀ x ∈ l, Lib.validRune x = true := List.all_eq_true.1 va
    have ho := items_of_enc l hr
    have hle := encL_le l
    rw [Hn.out] at hle
    have hsz : (⟨(encL l).toArray⟩ : ByteArray).size ≤ 12000 := by rw [Lib.size_eq, mk_toList]; omega
    have d1 := decAt_yes ⟨(encL l).toArray⟩ (by omega) (by rw [mk_toList]; exact ho.2)
    rw [mk_toList, ho.1] at d1
    exact back_yes A n c l Hn s ⟨(encL l).toArray⟩ w h hu (by omega) (by omega) hsz xs es (encAt_yes l hll va) d1 (by rw [mk_toList]; exact ho.2) d hd
end Go.Proofs.YtnacllcajadnoaaDoor
