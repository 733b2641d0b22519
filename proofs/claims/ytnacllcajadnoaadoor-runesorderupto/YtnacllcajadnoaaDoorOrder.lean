/- The law RunesOrder, walked: texts compare as their bytes do; the one way as the other; a beginning comes first. -/
import Derived.Test.YtnacllcajadnoaaDoorJoin
import Derived.Test.YtnacllcajadnoaaDoorCompare
namespace Go.Proofs.YtnacllcajadnoaaDoor
open Go.RowKit Go.Shelf

set_option maxRecDepth 100000 in
set_option maxHeartbeats 1000000 in
theorem order_no (a b : ByteArray) (w : World) (h : Okw w) (ha : a.size ≤ 1048576) (hb : b.size ≤ 1048576) (xs ys : List Int) (e1 e2 : Int)
    (d1 : DecAt a xs e1) (d2 : DecAt b ys e2) (hc : (2000 < a.size ∧ (e1 = 0 ∨ e1 = 3) ∧ (e2 = 0 ∨ e2 = 3)) ∨ (a.size ≤ 2000 ∧ 2000 < b.size ∧ (e1 = 0 ∨ e1 = 3) ∧ (e2 = 0 ∨ e2 = 3)) ∨ (a.size ≤ 2000 ∧ b.size ≤ 2000 ∧ e1 = 3 ∧ (e2 = 0 ∨ e2 = 3)) ∨ (a.size ≤ 2000 ∧ b.size ≤ 2000 ∧ e1 = 0 ∧ e2 = 3)) :
    Calls Tryd.prog 7 #[.string a, .string b] w (RetTrue w) := by
  have C0 := Lib.hid (alive_any w h)
  rcases hc with ⟨s1, rfl | rfl, rfl | rfl⟩ | ⟨s1, s2, rfl | rfl, rfl | rfl⟩ | ⟨s1, s2, rfl, rfl | rfl⟩ | ⟨s1, s2, rfl, rfl⟩
  all_goals
    (try have s3 : decide ((2000 : Int) < (a.size : Int)) = false := by simp; omega)
    (try have s4 : decide ((2000 : Int) < (b.size : Int)) = false := by simp; omega)
    go_enter Tryd.func7, Tryd.ntmps7
    go_wp2_with (go_at_call 9; refine C0.out.mono ?_; rintro e w0 ⟨rfl, hb0⟩)
    have h0 := h.below hb0
    refine (d1 _ h0).mono ?_
    rintro e w1 ⟨A1, c1, rfl, hr1, hb1⟩
    have h1 := h0.below hb1
    go_wp2_with fail
    refine (d2 _ h1).mono ?_
    rintro e w2 ⟨A2, c2, rfl, hr2, hb2⟩
    clear hr1 hr2
    go_wp2
    go_ret
    exact ⟨rfl, hb0.trans ((hb1.trans (hb2.mono hb1.size)).mono hb0.size)⟩

theorem Runs.take_ {w : World} {A : Option Addr} {n c : Nat} {l : List Int} (h : Runs w (.slice A n c) l) (hn : l.length = n) (k : Nat) (hk : k ≤ n) : Runs w (.slice A k c) (l.take k) := by
  obtain ⟨A', c', e, hlc, hcm, hx⟩ := h
  obtain ⟨rfl, rfl⟩ : A = A' ∧ c = c' := by simp at e; exact ⟨e.1, e.2.2⟩
  have hl : (l.take k).length = k := by rw [List.length_take]; omega
  refine ⟨A, c, by rw [hl], by omega, hcm, fun h0 => ?_⟩
  obtain ⟨b, o, eA, hb, hc⟩ := hx (by omega)
  refine ⟨b, o, eA, hb, fun j hj => ?_⟩
  rw [hc j (by omega)]
  simp only [List.getD_eq_getElem?_getD, List.getElem?_take]
  rw [if_pos (by omega)]

set_option maxRecDepth 100000 in
set_option maxHeartbeats 1000000 in
theorem order_yes (a b : ByteArray) (w : World) (h : Okw w) (ha : a.size ≤ 2000) (hb : b.size ≤ 2000) (xs ys : List Int) (n m : Nat) (hn : Hid (xs.length = n)) (hm : Hid (ys.length = m)) (hn2 : n ≤ 2000)
    (d1 : DecAt a xs 0) (d2 : DecAt b ys 0) (z : Int) (hz : (z = -1 ∧ Hid (cmpL ys xs = 1)) ∨ (z = 0 ∧ Hid (cmpL ys xs = 0)) ∨ (z = 1 ∧ Hid (cmpL ys xs = -1))) (hz1 : Hid (cmpL xs ys = z)) (hz2 : Hid (Lib.compareBytes a.data.toList b.data.toList = z)) :
    Calls Tryd.prog 7 #[.string a, .string b] w (RetTrue w) := by
  have C0 := Lib.hid (alive_any w h)
  have s3 : decide ((2000 : Int) < (a.size : Int)) = false := by simp; omega
  have s4 : decide ((2000 : Int) < (b.size : Int)) = false := by simp; omega
  rcases hz with ⟨rfl, hz⟩ | ⟨rfl, hz⟩ | ⟨rfl, hz⟩
  all_goals
    go_enter Tryd.func7, Tryd.ntmps7
    go_wp2_with (go_at_call 9; refine C0.out.mono ?_; rintro e w0 ⟨rfl, hb0⟩)
    have h0 := h.below hb0
    refine (d1 _ h0).mono ?_
    rw [hn.out]
    rintro e w1 ⟨A1, c1, rfl, hr1, hb1⟩
    have h1 := h0.below hb1
    go_wp2_with fail
    refine (d2 _ h1).mono ?_
    rw [hm.out]
    rintro e w2 ⟨A2, c2, rfl, hr2, hb2⟩
    have hr1' := hr1.below hb2
    have c3 := compare_any _ _ _ _ w2 hr1' hr2
    rw [hz1.out] at c3
    have c4 := Tryd.strings_Compare a b w2
    rw [hz2.out] at c4
    have c5 := compare_any _ _ _ _ w2 hr2 hr1'
    rw [hz.out] at c5
    have C3 := Lib.hid c3
    have C4 := Lib.hid c4
    have C5 := Lib.hid c5
    have HR := Lib.hid hr1'
    clear c3 c4 c5 hr1 hr2 hr1'
    go_wp2_with fail
    refine C3.out.mono ?_
    rintro e w3 ⟨rfl, rfl⟩
    go_wp2_with fail
    refine C4.out.mono ?_
    rintro e w3 ⟨rfl, rfl⟩
    go_wp2_with fail
    refine C5.out.mono ?_
    rintro e w3 ⟨rfl, rfl⟩
    obtain ⟨k, hkk, hkn⟩ : ∃ k : Nat, (n : Int) / 2 = (k : Int) ∧ k * 2 ≤ n ∧ n ≤ 2 * k + 1 := ⟨n / 2, by omega, by omega, by omega⟩
    obtain ⟨hk1, hk2⟩ := hkn
    obtain ⟨A', c', e', hlc, _⟩ := HR.out
    obtain ⟨rfl, rfl⟩ : A1 = A' ∧ c1 = c' := by simp at e'; exact ⟨e'.1, e'.2.2⟩
    clear e'
    rw [hn.out] at hlc
    have hkc : (k : Int) ≤ (c1 : Int) := by omega
    have c6 := compare_any _ _ _ _ w3 (HR.out.take_ hn.out k (by omega)) HR.out
    rw [cmp_take xs k (by rw [hn.out]; omega), hn.out] at c6
    have hB : Below w.heap.size w w3 := hb0.trans ((hb1.trans (hb2.mono hb1.size)).mono hb0.size)
    by_cases h0 : n = 0
    · subst h0
      obtain rfl : k = 0 := by omega
      rw [if_pos rfl] at c6
      have C6 := Lib.hid c6
      clear c6 hkk
      go_wp2_with (go_at_call 21; refine C6.out.mono ?_; rintro e w4 ⟨rfl, rfl⟩)
      go_ret
      exact ⟨rfl, hB⟩
    · rw [if_neg (by omega)] at c6
      have C6 := Lib.hid c6
      clear c6
      have hmin : (1 : Int) ≤ (n : Int) - (k : Int) := by omega
      go_wp2_with (go_at_call 21; refine C6.out.mono ?_; rintro e w4 ⟨rfl, rfl⟩)
      go_ret
      exact ⟨by simp; omega, hB⟩

theorem order_walk (a b : ByteArray) (w : World) (h : Okw w) (ha : a.size ≤ 1048576) (hb : b.size ≤ 1048576) :
    Calls Tryd.prog 7 #[.string a, .string b] w (RetTrue w) := by
  have d1 := decAt a (by omega)
  have d2 := decAt b (by omega)
  have e1 : decErr a.data.toList = 0 ∨ decErr a.data.toList = 3 := by unfold decErr; split <;> simp
  have e2 : decErr b.data.toList = 0 ∨ decErr b.data.toList = 3 := by unfold decErr; split <;> simp
  by_cases s1 : 2000 < a.size
  · exact order_no a b w h ha hb _ _ _ _ d1 d2 (.inl ⟨s1, e1, e2⟩)
  by_cases s2 : 2000 < b.size
  · exact order_no a b w h ha hb _ _ _ _ d1 d2 (.inr (.inl ⟨by omega, s2, e1, e2⟩))
  cases va : Lib.validD a.data.toList
  · exact order_no a b w h ha hb _ _ _ _ (decAt_no a (by omega) va) d2 (.inr (.inr (.inl ⟨by omega, by omega, rfl, e2⟩)))
  cases vb : Lib.validD b.data.toList
  · exact order_no a b w h ha hb _ _ _ _ (decAt_yes a (by omega) va) (decAt_no b (by omega) vb) (.inr (.inr (.inr ⟨by omega, by omega, rfl, rfl⟩)))
  have hcmp := cmp_enc (items a.data.toList) (items b.data.toList) (items_runes _ va) (items_runes _ vb)
  rw [enc_items _ va, enc_items _ vb] at hcmp
  have hfl := cmpL_flip (items b.data.toList) (items a.data.toList)
  have hl := items_le a.data.toList
  rw [← Lib.size_eq] at hl
  refine order_yes a b w h (by omega) (by omega) _ _ _ _ (Lib.hid rfl) (Lib.hid rfl) (by omega) (decAt_yes a (by omega) va) (decAt_yes b (by omega) vb) _ ?_ (Lib.hid rfl) (Lib.hid hcmp)
  rcases cmpL_bd (items a.data.toList) (items b.data.toList) with e | e | e
  · exact .inl ⟨e, Lib.hid (by rw [hfl, e]; rfl)⟩
  · exact .inr (.inl ⟨e, Lib.hid (by rw [hfl, e]; rfl)⟩)
  · exact .inr (.inr ⟨e, Lib.hid (by rw [hfl, e])⟩)
end Go.Proofs.YtnacllcajadnoaaDoor
