/- The law RunesDecode, walked: any bytes' runes, or the error, whether all are letters, a token's runes, are the document's. -/
import Derived.Test.YtnacllcajadnoaaDoorRefDecode
namespace Go.Proofs.YtnacllcajadnoaaDoor
open Go.RowKit Go.Shelf

theorem same_self (u v : Value) (x : List Int) (w : World) (hx : Runs w u x) (hy : Runs w v x) :
    Calls Tryd.prog 14 #[u, v] w fun e w' => e = .returned (.bool true) ∧ Below w.heap.size w w' := by
  have := same_any u v x x w hx hy
  rw [decide_eq_true rfl] at this
  exact this.mono fun e w' h => ⟨h.1, h.2.below _⟩

set_option maxRecDepth 100000 in
set_option maxHeartbeats 2000000 in
theorem decodeLaw_small (s : ByteArray) (w : World) (h : Okw w) (hS : s.size ≤ 3000) (xs ts : List Int) (n m : Nat) (e1 e2 : Int) (lb : Bool)
    (hn : Hid (xs.length = n)) (hm : Hid (ts.length = m))
    (d1 : ∀ w, Okw w → Calls Tryd.prog 10 #[.string s] w fun e w' => ∃ A c, e = .returned (.tuple #[.slice A n c, .int .i64 e1]) ∧ Runs w' (.slice A n c) xs ∧ Below w.heap.size w w')
    (d2 : ∀ w, Calls Tryd.prog 11 #[.string s] w fun e w' => ∃ A c, e = .returned (.tuple #[.slice A n c, .int .i64 e1]) ∧ Runs w' (.slice A n c) xs ∧ Below w.heap.size w w')
    (d3 : ∀ w, Okw w → Calls Tryd.prog 12 #[.string s] w fun e w' => ∃ A c, e = .returned (.tuple #[.slice A m c, .int .i64 e2]) ∧ Runs w' (.slice A m c) ts ∧ Below w.heap.size w w')
    (d4 : ∀ w, Calls Tryd.prog 13 #[.string s] w fun e w' => ∃ A c, e = .returned (.tuple #[.slice A m c, .int .i64 e2]) ∧ Runs w' (.slice A m c) ts ∧ Below w.heap.size w w')
    (d5 : ∀ w, Okw w → Calls Tryd.prog 15 #[.string s] w fun e w' => e = .returned (.bool lb) ∧ Below w.heap.size w w')
    (d6 : ∀ w, Calls Tryd.prog 16 #[.string s] w fun e w' => e = .returned (.bool lb) ∧ Below w.heap.size w w') :
    Calls Tryd.prog 3 #[.string s] w (RetTrue w) := by
  have C0 := Lib.hid (alive_any w h)
  have hA' : decide ((3000 : Int) < (s.size : Int)) = false := by simp; omega
  have q1 : (e1 == e1) = true := by simp
  have q2 : (e2 == e2) = true := by simp
  have q3 : (lb == lb) = true := by simp
  go_enter Tryd.func3, Tryd.ntmps3
  go_wp2_with (go_at_call 9; refine C0.out.mono ?_; rintro e w0 ⟨rfl, hb0⟩)
  have h0 := h.below hb0
  refine (d1 _ h0).mono ?_
  rintro e w1 ⟨A1, c1, rfl, hr1, hb1⟩
  have h1 := h0.below hb1
  go_wp2_with fail
  refine (d2 _).mono ?_
  rintro e w2 ⟨A2, c2, rfl, hr2, hb2⟩
  have h2 := h1.below hb2
  go_wp2_with fail
  refine (d3 _ h2).mono ?_
  rintro e w3 ⟨A3, c3, rfl, hr3, hb3⟩
  have h3 := h2.below hb3
  go_wp2_with fail
  refine (d4 _).mono ?_
  rintro e w4 ⟨A4, c4, rfl, hr4, hb4⟩
  have h4 := h3.below hb4
  have C5 := Lib.hid (same_self _ _ _ w4 (((hr1.below hb2).below hb3).below hb4) ((hr2.below hb3).below hb4))
  have hB4 : Below w.heap.size w w4 := hb0.trans ((hb1.trans ((hb2.trans ((hb3.trans (hb4.mono hb3.size)).mono hb2.size)).mono hb1.size)).mono hb0.size)
  have hr3' := hr3.below hb4
  clear hr1 hr2 hr3 hb0 hb1 hb2 hb3 hb4 h0 h1 h2 h3
  go_wp2_with fail
  refine C5.out.mono ?_
  rintro e w5 ⟨rfl, hb5⟩
  have h5 := h4.below hb5
  go_wp2_with fail
  refine (d5 _ h5).mono ?_
  rintro e w6 ⟨rfl, hb6⟩
  go_wp2_with fail
  refine (d6 _).mono ?_
  rintro e w7 ⟨rfl, hb7⟩
  have hb57 : Below w4.heap.size w4 w7 := hb5.trans ((hb6.trans (hb7.mono hb6.size)).mono hb5.size)
  have C8 := Lib.hid (same_self _ _ _ w7 (hr3'.below hb57) (hr4.below hb57))
  go_wp2_with fail
  refine C8.out.mono ?_
  rintro e w8 ⟨rfl, hb8⟩
  go_wp2
  go_ret
  exact ⟨by simp, hB4.trans ((hb57.trans (hb8.mono hb57.size)).mono hB4.size)⟩

set_option maxRecDepth 100000 in
set_option maxHeartbeats 1000000 in
theorem decodeLaw_walk (s : ByteArray) (w : World) (h : Okw w) (hs : s.size ≤ maxLen) :
    Calls Tryd.prog 3 #[.string s] w (RetTrue w) := by
  unfold maxLen at hs
  by_cases hA : 3000 < s.size
  · have C0 := Lib.hid (alive_any w h)
    go_enter Tryd.func3, Tryd.ntmps3
    go_wp2_with (go_at_call 9; refine C0.out.mono ?_; rintro e w0 ⟨rfl, hb0⟩)
    go_ret
    exact ⟨rfl, hb0⟩
  exact decodeLaw_small s w h (by omega) (decRunes s.data.toList) (tokRunes s.data.toList) _ _ _ _ (lettersB s.data.toList) (Lib.hid rfl) (Lib.hid rfl)
    (fun w hw => decode_runs s w (by omega) hw.1 hw.2) (fun w => refDecode_runs s w (by omega)) (fun w hw => token_any s w (by omega) hw.1 hw.2) (fun w => refToken_any s w (by omega))
    (fun w hw => letters_any s w (by unfold maxLen; omega) hw.1 hw.2) (fun w => refLetters_any s w (by omega))
end Go.Proofs.YtnacllcajadnoaaDoor
