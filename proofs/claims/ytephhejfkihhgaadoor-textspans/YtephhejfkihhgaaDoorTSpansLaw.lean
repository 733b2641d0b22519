/- The law TextSpans, walked: any bytes' pieces, and tokens, or the error, are the document's. -/
import Derived.Test.YtephhejfkihhgaaDoorTRef2
namespace Go.Proofs.YtephhejfkihhgaaDoor
open Go.RowKit Go.Shelf

set_option maxRecDepth 100000 in
set_option maxHeartbeats 2000000 in
theorem spansLaw_gen (s : ByteArray) (w : World) (h : Okw w) (hA : s.size ≤ 4000 ∨ 1048576 < s.size) (l : List Sp) (ts : List ByteArray) (n m : Nat) (er : Int)
    (d1 : ∀ w, Okw w → Calls Tryd.prog 11 #[.string s] w fun e w' => ∃ A c, e = .returned (.tuple #[.slice A n c, .int .i64 er]) ∧ SRuns w' (.slice A n c) l ∧ Below w.heap.size w w')
    (d2 : ∀ w, Calls Tryd.prog 12 #[.string s] w fun e w' => ∃ A c, e = .returned (.tuple #[.slice A n c, .int .i64 er]) ∧ SRuns w' (.slice A n c) l ∧ Below w.heap.size w w')
    (d3 : ∀ w, Okw w → Calls Tryd.prog 13 #[.string s] w fun e w' => ∃ A c, e = .returned (.tuple #[.slice A m c, .int .i64 er]) ∧ TRuns w' (.slice A m c) ts ∧ Below w.heap.size w w')
    (d4 : ∀ w, Calls Tryd.prog 14 #[.string s] w fun e w' => ∃ A c, e = .returned (.tuple #[.slice A m c, .int .i64 er]) ∧ TRuns w' (.slice A m c) ts ∧ Below w.heap.size w w') :
    Calls Tryd.prog 3 #[.string s] w (RetTrue w) := by
  have C0 := Lib.hid (alive2_any w h)
  have q1 : (er == er) = true := by simp
  rcases hA with hA | hA
  · have hA' : decide ((4000 : Int) < (s.size : Int)) = false := by simp; omega
    go_enter Tryd.func3, Tryd.ntmps3
    go_wp2_with (go_at_call 10; refine C0.out.mono ?_; rintro e w0 ⟨rfl, hb0⟩)
    have h0 := h.below hb0
    refine (d1 _ h0).mono ?_
    rintro e w1 ⟨A1, c1, rfl, hr1, hb1⟩
    have h1 := h0.below hb1
    go_wp2_with fail
    refine (d2 _).mono ?_
    rintro e w2 ⟨A2, c2, rfl, hr2, hb2⟩
    have h2 := h1.below hb2
    go_wp2_with fail
    refine (d3 _ h2).mono ?_
    rintro e w3 ⟨A3, c3, rfl, hr3, hb3⟩
    go_wp2_with fail
    refine (d4 _).mono ?_
    rintro e w4 ⟨A4, c4, rfl, hr4, hb4⟩
    have hB4 : Below w.heap.size w w4 := hb0.trans ((hb1.trans ((hb2.trans ((hb3.trans (hb4.mono hb3.size)).mono hb2.size)).mono hb1.size)).mono hb0.size)
    have C5 := Lib.hid (same2_self _ _ l w4 (((hr1.below hb2).below hb3).below hb4) ((hr2.below hb3).below hb4))
    have hr34 := hr3.below hb4
    clear hr1 hr2 hr3
    go_wp2_with fail
    refine C5.out.mono ?_
    rintro e w5 ⟨rfl, hb5⟩
    have C6 := Lib.hid (texts_self _ _ ts w5 (hr34.below hb5) (hr4.below hb5))
    clear hr34 hr4 C5
    go_wp2_with (go_at_call 16; refine C6.out.mono ?_; rintro e w6 ⟨rfl, hb6⟩)
    go_ret
    exact ⟨by simp, hB4.trans ((hb5.trans (hb6.mono hb5.size)).mono hB4.size)⟩
  · have hA' : decide ((4000 : Int) < (s.size : Int)) = true := by simp; omega
    have hB' : decide ((s.size : Int) ≤ (1048576 : Int)) = false := by simp; omega
    go_enter Tryd.func3, Tryd.ntmps3
    go_wp2_with (go_at_call 10; refine C0.out.mono ?_; rintro e w0 ⟨rfl, hb0⟩)
    have h0 := h.below hb0
    refine (d1 _ h0).mono ?_
    rintro e w1 ⟨A1, c1, rfl, hr1, hb1⟩
    have h1 := h0.below hb1
    go_wp2_with fail
    refine (d2 _).mono ?_
    rintro e w2 ⟨A2, c2, rfl, hr2, hb2⟩
    have h2 := h1.below hb2
    go_wp2_with fail
    refine (d3 _ h2).mono ?_
    rintro e w3 ⟨A3, c3, rfl, hr3, hb3⟩
    go_wp2_with fail
    refine (d4 _).mono ?_
    rintro e w4 ⟨A4, c4, rfl, hr4, hb4⟩
    have hB4 : Below w.heap.size w w4 := hb0.trans ((hb1.trans ((hb2.trans ((hb3.trans (hb4.mono hb3.size)).mono hb2.size)).mono hb1.size)).mono hb0.size)
    have C5 := Lib.hid (same2_self _ _ l w4 (((hr1.below hb2).below hb3).below hb4) ((hr2.below hb3).below hb4))
    have hr34 := hr3.below hb4
    clear hr1 hr2 hr3
    go_wp2_with fail
    refine C5.out.mono ?_
    rintro e w5 ⟨rfl, hb5⟩
    have C6 := Lib.hid (texts_self _ _ ts w5 (hr34.below hb5) (hr4.below hb5))
    clear hr34 hr4 C5
    go_wp2_with (go_at_call 16; refine C6.out.mono ?_; rintro e w6 ⟨rfl, hb6⟩)
    go_ret
    exact ⟨by simp, hB4.trans ((hb5.trans (hb6.mono hb5.size)).mono hB4.size)⟩

set_option maxRecDepth 100000 in
set_option maxHeartbeats 1000000 in
theorem spansLaw_walk (s : ByteArray) (w : World) (h : Okw w) (_hs : s.size ≤ maxLen) :
    Calls Tryd.prog 3 #[.string s] w (RetTrue w) := by
  by_cases hA : 4000 < s.size ∧ s.size ≤ 1048576
  · have C0 := Lib.hid (alive2_any w h)
    obtain ⟨h1, h2⟩ := hA
    have i1 : (4000 : Int) < (s.size : Int) := by omega
    have i2 : (s.size : Int) ≤ 1048576 := by omega
    go_enter Tryd.func3, Tryd.ntmps3
    go_wp2_with (go_at_call 10; refine C0.out.mono ?_; rintro e w0 ⟨rfl, hb0⟩)
    go_ret
    exact ⟨rfl, hb0⟩
  exact spansLaw_gen s w h (by omega) (docSpans s.data.toList) (docTokS s) _ _ _ (fun w h => spans_any s w h) (fun w => refSpans_any s w) (fun w h => tokens_any s w h) (fun w => refTokens_any s w)
end Go.Proofs.YtephhejfkihhgaaDoor
