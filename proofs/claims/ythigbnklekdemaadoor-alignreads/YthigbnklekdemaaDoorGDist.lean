/- align.Distance: how far two tokens are apart, or why one of them is none. -/
import Derived.Test.YthigbnklekdemaaDoorGLay2
import Derived.Test.YthigbnklekdemaaDoorALaw1
namespace Go.Proofs.YthigbnklekdemaaDoor
open Go.RowKit Go.Shelf

theorem TabR.at {w w' : World} {d : Value} {x y : List Int} (h : TabR w d x y) (hb : Below w.heap.size w w') : TabR w' d x y := by
  obtain ⟨G, dc, e, hx⟩ := h
  refine ⟨G, dc, e, fun i hi => ?_⟩
  obtain ⟨b, h1, h2⟩ := hx i hi
  exact ⟨b, (hb.cell (cell_lt h1)).trans h1, fun j hj => (hb.cell (cell_lt (h2 j hj))).trans (h2 j hj)⟩

set_option maxRecDepth 100000 in
set_option maxHeartbeats 4000000 in
theorem distance_any (s t : ByteArray) (hs : s.size * 4 ≤ 140737488355328) (ht : t.size * 4 ≤ 140737488355328) : DistAt s t := by
  intro w h
  by_cases h2 : tokErr2 s.data.toList t.data.toList = 0
  · have h1 : tokErr s.data.toList = 0 := by
      unfold tokErr2 at h2
      by_cases h1 : tokErr s.data.toList = 0
      · exact h1
      · rw [if_neg h1] at h2; exact absurd h2 h1
    have h3 : tokErr t.data.toList = 0 := by rwa [tokErr2, if_pos h1] at h2
    have c := lay_ok s t w h hs ht h1 h3
    have e3 : distS s.data.toList t.data.toList = levR (tokRunes s.data.toList).reverse (tokRunes t.data.toList).reverse := by rw [distS, if_pos h2]
    obtain ⟨lx, _⟩ := tok_len h1
    obtain ⟨ly, _⟩ := tok_len h3
    rw [h2, e3]
    clear e3 h1 h2 h3
    obtain ⟨x, hx⟩ : ∃ x, tokRunes s.data.toList = x := ⟨_, rfl⟩
    obtain ⟨y, hy⟩ : ∃ y, tokRunes t.data.toList = y := ⟨_, rfl⟩
    rw [hx] at lx ⊢
    rw [hy] at ly ⊢
    simp only [hx, hy] at c
    clear hx hy
    have HT : Hid (levR x.reverse y.reverse = tab x y x.length y.length) := Lib.hid (by unfold tab; rw [List.take_length, List.take_length])
    obtain ⟨D, hD⟩ : ∃ D, levR x.reverse y.reverse = D := ⟨_, rfl⟩
    rw [hD] at HT ⊢
    clear hD
    go_enter Tryd.func12, Tryd.ntmps12
    go_wp2_with fail
    refine c.mono ?_
    rintro e w1 ⟨u, v, d, rfl, R1, R2, T, B1⟩
    clear c
    obtain ⟨A, ca, rfl, _, _, _⟩ := R1.out
    obtain ⟨B, cb, rfl, _, _, _⟩ := R2.out
    obtain ⟨G, dc, rfl, hT⟩ := T.out
    obtain ⟨b, e1, e2⟩ := hT x.length (Nat.le_refl _)
    have e3 := e2 y.length (Nat.le_refl _)
    rw [← HT.out] at e3
    clear hT e2 HT R1 R2 T
    have hal : Hid (Below w1.heap.size w1 (w1.alloc (.cells #[.slice A x.length ca, .slice B y.length cb, .slice (some ⟨G, 0, none⟩) (x.length + 1) dc] 45))) := Lib.hid ((Below.refl _ _).alloc (Nat.le_refl _) _)
    obtain ⟨n, hn⟩ : ∃ n, x.length = n := ⟨_, rfl⟩
    obtain ⟨m, hm⟩ : ∃ m, y.length = m := ⟨_, rfl⟩
    rw [hn] at lx e1 hal ⊢
    rw [hm] at ly e1 e3 hal ⊢
    clear hn hm
    have f1 := (hal.out.cell (cell_lt e1)).trans e1
    have f3 := (hal.out.cell (cell_lt e3)).trans e3
    clear e1 e3
    have i1 : (n : Int) < ((n : Int) + 1) := by omega
    have i2 : (m : Int) < ((m : Int) + 1) := by omega
    go_wp2
    go_quiet (fail)
    go_wp2
    go_ret2
    exact ⟨rfl, below_draws (B1.out.trans (hal.out.mono B1.out.size)) _⟩
  · have c := lay_bad s t w h hs ht h2
    have e3 : distS s.data.toList t.data.toList = 0 := by rw [distS, if_neg h2]
    rw [e3]
    clear e3
    obtain ⟨er, he⟩ : ∃ er, tokErr2 s.data.toList t.data.toList = er := ⟨_, rfl⟩
    rw [he] at h2 c ⊢
    clear he
    go_enter Tryd.func12, Tryd.ntmps12
    go_wp2_with fail
    refine c.mono ?_
    rintro e w1 ⟨rfl, B1⟩
    clear c
    go_wp2
    go_ret2
    exact ⟨rfl, B1.out.alloc B1.out.size _⟩
end Go.Proofs.YthigbnklekdemaaDoor
