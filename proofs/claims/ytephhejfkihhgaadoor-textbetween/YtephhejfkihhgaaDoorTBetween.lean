/- The law TextBetween, walked: two documents with a blank between have the tokens of both. -/
import Derived.Test.YtephhejfkihhgaaDoorTLaw
namespace Go.Proofs.YtephhejfkihhgaaDoor
open Go.RowKit Go.Shelf

set_option maxRecDepth 100000 in
set_option maxHeartbeats 2000000 in
theorem between_no (a b : ByteArray) (w : World) (h : Okw w) (hA : a.size ≤ 2000) (hB : b.size ≤ 2000) (xs ys zs : List ByteArray) (e1 e2 e3 : Int)
    (d1 : TokAt a xs e1) (d2 : TokAt b ys e2) (d3 : TokAt (a ++ ⟨#[32]⟩ ++ b) zs e3) (h12 : (e1 = 3 ∧ e3 = 3) ∨ (e1 = 0 ∧ e2 = 3 ∧ e3 = 3)) :
    Calls Tryd.prog 7 #[.string a, .string b] w (RetTrue w) := by
  have C0 := Lib.hid (alive2_any w h)
  have hA' : decide ((2000 : Int) < (a.size : Int)) = false := by simp; omega
  have hB' : decide ((2000 : Int) < (b.size : Int)) = false := by simp; omega
  rcases h12 with ⟨rfl, rfl⟩ | ⟨rfl, rfl, rfl⟩
  all_goals
    go_enter Tryd.func7, Tryd.ntmps7
    go_wp2_with (go_at_call 10; refine C0.out.mono ?_; rintro e w0 ⟨rfl, hb0⟩)
    have h0 := h.below hb0
    refine (d1 _ h0).mono ?_
    rintro e w1 ⟨A1, c1, rfl, hr1, hb1⟩
    have h1 := h0.below hb1
    go_wp2_with fail
    refine (d2 _ h1).mono ?_
    rintro e w2 ⟨A2, c2, rfl, hr2, hb2⟩
    have h2 := h1.below hb2
    go_wp2_with fail
    refine (d3 _ h2).mono ?_
    rintro e w3 ⟨A3, c3, rfl, hr3, hb3⟩
    clear hr1 hr2 hr3
    go_wp2
    go_ret
    exact ⟨rfl, hb0.trans ((hb1.trans ((hb2.trans (hb3.mono hb2.size)).mono hb1.size)).mono hb0.size)⟩

set_option maxRecDepth 100000 in
set_option maxHeartbeats 2000000 in
theorem between_yes (a b : ByteArray) (w : World) (h : Okw w) (hA : a.size ≤ 2000) (hB : b.size ≤ 2000) (xs ys zs : List ByteArray)
    (d1 : TokAt a xs 0) (d2 : TokAt b ys 0) (d3 : TokAt (a ++ ⟨#[32]⟩ ++ b) zs 0) (hzs : Hid (zs = xs ++ ys)) (hl1 : xs.length ≤ 2001) (hl2 : ys.length ≤ 2001) :
    Calls Tryd.prog 7 #[.string a, .string b] w (RetTrue w) := by
  have C0 := Lib.hid (alive2_any w h)
  have hA' : decide ((2000 : Int) < (a.size : Int)) = false := by simp; omega
  have hB' : decide ((2000 : Int) < (b.size : Int)) = false := by simp; omega
  go_enter Tryd.func7, Tryd.ntmps7
  go_wp2_with (go_at_call 10; refine C0.out.mono ?_; rintro e w0 ⟨rfl, hb0⟩)
  have h0 := h.below hb0
  refine (d1 _ h0).mono ?_
  rintro e w1 ⟨A1, c1, rfl, hr1, hb1⟩
  have h1 := h0.below hb1
  go_wp2_with fail
  refine (d2 _ h1).mono ?_
  rintro e w2 ⟨A2, c2, rfl, hr2, hb2⟩
  have h2 := h1.below hb2
  go_wp2_with fail
  refine (d3 _ h2).mono ?_
  rintro e w3 ⟨A3, c3, rfl, hr3, hb3⟩
  have hba : Below w3.heap.size w3 (w3.alloc (.cells #[] 9)) := (Below.refl _ _).alloc (Nat.le_refl _) _
  have hr1' := (((hr1.below hb2).below hb3).below hba)
  obtain ⟨v4, w4, hrun4, hown4, hg4, hat4⟩ := append_texts _ w3.heap.size _ 0 [] (own_litT w3) _ xs hr1' (by simp) (by omega)
  have hb4 : Below w3.heap.size w3 w4 := hba.grown hg4 (by simp) (fun k hk => by simp [Value.ownBlock] at hk; omega)
  have hr2' := (hr2.below hb3).below hb4
  obtain ⟨v5, w5, hrun5, hown5, hg5, hat5⟩ := append_texts _ w3.heap.size _ _ _ hown4 _ ys hr2' hb4.size (by omega)
  have hb5 : Below w3.heap.size w3 w5 := hb4.grown hg5 hb4.size (fun k hk => by
    rcases hat4 with e | e <;> rw [e] at hk <;> simp [Value.ownBlock] at hk <;> omega)
  have hz : TRuns w5 v5 zs := TRuns.of_own (n := 0 + xs.length + ys.length) (by rw [hzs.out]; simpa using hown5)
  have C := Lib.hid (texts_self _ _ _ w5 (hr3.below hb5) hz)
  have hz' := hz
  obtain ⟨A5, c5, rfl, _⟩ := hz'
  have h4 : TRuns w4 v4 xs := TRuns.of_own (n := 0 + xs.length) (by simpa using hown4)
  obtain ⟨A4, c4, rfl, _⟩ := h4
  clear hz hown4 hown5 hg4 hg5 hat4 hat5 hr1' hr2' hr1 hr2 hr3
  have H4 := Lib.hid hrun4
  have H5 := Lib.hid hrun5
  clear hrun4 hrun5
  go_wp2_with (first
    | (at_builtin; refine wpList_append_run (.tmp 51) (.tmp 52) 27 _ _ _ _ H4.out rfl rfl rfl rfl ?_)
    | (at_builtin; refine wpList_append_run (.tmp 53) (.tmp 54) 27 _ _ _ _ H5.out rfl rfl rfl rfl ?_)
    | (go_at_call 16; refine C.out.mono ?_; rintro e w6 ⟨rfl, hb6⟩))
  go_ret
  exact ⟨by simp, hb0.trans (((hb1.trans ((hb2.trans ((hb3.trans ((hb5.trans (hb6.mono hb5.size)).mono hb3.size)).mono hb2.size)).mono hb1.size))).mono hb0.size)⟩

set_option maxRecDepth 100000 in
set_option maxHeartbeats 1000000 in
theorem between_walk (a b : ByteArray) (w : World) (h : Okw w) (ha : a.size ≤ maxLen) (hb : b.size ≤ maxLen) :
    Calls Tryd.prog 7 #[.string a, .string b] w (RetTrue w) := by
  unfold maxLen at ha hb
  by_cases hA : 2000 < a.size
  · have C0 := Lib.hid (alive2_any w h)
    go_enter Tryd.func7, Tryd.ntmps7
    go_wp2_with (go_at_call 10; refine C0.out.mono ?_; rintro e w0 ⟨rfl, hb0⟩)
    go_ret
    exact ⟨rfl, hb0⟩
  by_cases hB : 2000 < b.size
  · have C0 := Lib.hid (alive2_any w h)
    have hA' : decide ((2000 : Int) < (a.size : Int)) = false := by simp; omega
    go_enter Tryd.func7, Tryd.ntmps7
    go_wp2_with (go_at_call 10; refine C0.out.mono ?_; rintro e w0 ⟨rfl, hb0⟩)
    go_ret
    exact ⟨rfl, hb0⟩
  have hab : (a ++ ⟨#[32]⟩ ++ b).size ≤ 1048576 := by rw [app_size, app_size]; have : (ByteArray.mk #[32]).size = 1 := rfl; omega
  have hzd : (a ++ ⟨#[32]⟩ ++ b).data.toList = a.data.toList ++ 32 :: b.data.toList := by rw [app_toList, app_toList]; simp
  have hby := items_byte 32 (by decide) b.data.toList
  cases va : Lib.validD a.data.toList
  · have hz : Lib.validD (a ++ ⟨#[32]⟩ ++ b).data.toList = false := by rw [hzd]; exact join_bad2 _ _ va (fun _ => by show (32 : UInt8).toNat / 64 ≠ 2; decide)
    have hx := tokAt b
    exact between_no a b w h (by omega) (by omega) _ _ _ _ _ _ (tokAt_no a (by omega) va) hx (tokAt_no _ hab hz) (.inl ⟨rfl, rfl⟩)
  · have hj := items_join a.data.toList (32 :: b.data.toList) va
    cases vb : Lib.validD b.data.toList
    · have hz : Lib.validD (a ++ ⟨#[32]⟩ ++ b).data.toList = false := by rw [hzd, hj.2, hby.2]; exact vb
      exact between_no a b w h (by omega) (by omega) _ _ _ _ _ _ (tokAt_yes a (by omega) va) (tokAt_no b (by omega) vb) (tokAt_no _ hab hz) (.inr ⟨rfl, rfl, rfl⟩)
    · have hz : Lib.validD (a ++ ⟨#[32]⟩ ++ b).data.toList = true := by rw [hzd, hj.2, hby.2]; exact vb
      have hin : items (a ++ ⟨#[32]⟩ ++ b).data.toList = items a.data.toList ++ 32 :: items b.data.toList := by rw [hzd, hj.1, hby.1]; rfl
      have l1 := tok_le a
      have l2 := tok_le b
      exact between_yes a b w h (by omega) (by omega) _ _ _ (tokAt_yes a (by omega) va) (tokAt_yes b (by omega) vb) (tokAt_yes _ hab hz) (Lib.hid (by rw [hin, tk_sep 32 (by decide), List.map_append])) (by omega) (by omega)
end Go.Proofs.YtephhejfkihhgaaDoor
