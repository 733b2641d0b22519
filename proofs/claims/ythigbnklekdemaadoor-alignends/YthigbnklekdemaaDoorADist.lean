/- Two tokens' runes, and how far they are apart, as errataref04 tells it. -/
import Derived.Test.YthigbnklekdemaaDoorATable
import Derived.Test.YthigbnklekdemaaDoorRefDecode
namespace Go.Proofs.YthigbnklekdemaaDoor
open Go.RowKit Go.Shelf

theorem tok_len {l : List UInt8} (h : tokErr l = 0) : (tokRunes l).length ≤ 64 ∧ 0 < (tokRunes l).length := by
  have e : tokRunes l = items l := by unfold tokRunes; rw [if_pos h]
  unfold tokErr at h
  rw [e]
  by_cases hv : Lib.validD l = true
  · rw [if_pos hv] at h
    by_cases h0 : (items l).length = 0
    · rw [if_pos h0] at h; cases h
    · rw [if_neg h0] at h
      by_cases h1 : 64 < (items l).length
      · rw [if_pos h1] at h; cases h
      · omega
  · rw [if_neg hv] at h; cases h

/-- The first error of two tokens. -/
def tokErr2 (s t : List UInt8) : Int := if tokErr s = 0 then tokErr t else tokErr s
/-- How far two tokens are apart, or 0. -/
def distS (s t : List UInt8) : Nat := if tokErr2 s t = 0 then levR (tokRunes s).reverse (tokRunes t).reverse else 0

set_option maxRecDepth 100000 in
set_option maxHeartbeats 4000000 in
theorem refTokens_bad (s t : ByteArray) (w : World) (hs : s.size * 4 ≤ 140737488355328) (h : tokErr s.data.toList ≠ 0) :
    Calls Tryd.prog 26 #[.string s, .string t] w fun e w' => e = .returned (.tuple #[.slice none 0 0, .slice none 0 0, .int .i64 (tokErr s.data.toList)]) ∧ Below w.heap.size w w' := by
  have c := refToken_any s w hs
  obtain ⟨er, he⟩ : ∃ er, tokErr s.data.toList = er := ⟨_, rfl⟩
  rw [he] at c h ⊢
  clear he
  go_enter Tryd.func26, Tryd.ntmps26
  go_wp2_with fail
  refine c.mono ?_
  rintro e w1 ⟨A, cc, rfl, r1, b1⟩
  have B1 := Lib.hid b1; clear b1 r1 c
  go_wp2
  simp [bodyPost, results, Tryd.results26, go_sem]
  exact B1.out

set_option maxRecDepth 100000 in
set_option maxHeartbeats 4000000 in
theorem refTokens_ok (s t : ByteArray) (w : World) (hs : s.size * 4 ≤ 140737488355328) (ht : t.size * 4 ≤ 140737488355328) (h : tokErr s.data.toList = 0) :
    Calls Tryd.prog 26 #[.string s, .string t] w fun e w' => ∃ A c B d, e = .returned (.tuple #[.slice A (tokRunes s.data.toList).length c, .slice B (tokRunes t.data.toList).length d, .int .i64 (tokErr t.data.toList)]) ∧
      Hid (Runs w' (.slice A (tokRunes s.data.toList).length c) (tokRunes s.data.toList)) ∧ Hid (Runs w' (.slice B (tokRunes t.data.toList).length d) (tokRunes t.data.toList)) ∧ Hid (Below w.heap.size w w') := by
  have c := refToken_any s w hs
  have c2 := fun w => refToken_any t w ht
  obtain ⟨er, he⟩ : ∃ er, tokErr t.data.toList = er := ⟨_, rfl⟩
  rw [h] at c
  simp only [he] at c2
  rw [he]
  obtain ⟨x, hx⟩ : ∃ x, tokRunes s.data.toList = x := ⟨_, rfl⟩
  obtain ⟨y, hy⟩ : ∃ y, tokRunes t.data.toList = y := ⟨_, rfl⟩
  rw [hx] at c ⊢
  simp only [hy] at c2 ⊢
  obtain ⟨n, hn⟩ : ∃ n, x.length = n := ⟨_, rfl⟩
  obtain ⟨m, hm⟩ : ∃ m, y.length = m := ⟨_, rfl⟩
  rw [hn] at c ⊢
  simp only [hm] at c2 ⊢
  clear he h hx hy hn hm
  go_enter Tryd.func26, Tryd.ntmps26
  go_wp2_with fail
  refine c.mono ?_
  rintro e w1 ⟨A, cc, rfl, r1, b1⟩
  have R1 := Lib.hid r1; clear r1 c
  have B1 := Lib.hid b1; clear b1
  go_wp2_with fail
  refine (c2 _).mono ?_
  rintro e w2 ⟨B, d, rfl, r2, b2⟩
  have R1' := Lib.hid (R1.out.below b2)
  have R2 := Lib.hid r2; clear r2 R1
  have B2 := Lib.hid (B1.out.trans (b2.mono B1.out.size)); clear b2 B1 c2
  go_wp2
  exact bodyPost_ret (v := .tuple #[.slice A n cc, .slice B m d, .int .i64 er]) (by simp [results, Tryd.results26, go_sem]) rfl ⟨A, cc, B, d, rfl, R1', R2, B2⟩

/-- A cell of the table. -/
theorem TblAt.at {w : World} {G : Nat} {x y : List Int} {M N : Nat} {gs : List Nat} (h : TblAt w G x y M N N gs) (i : Nat) (hi : i < N) :
    ∃ b, w.cell? ⟨G, i, none⟩ = some (.slice (some ⟨b, 0, none⟩) M M) ∧ ∀ j, j < M → w.cell? ⟨b, j, none⟩ = some (.int .i64 ((tab x y i j : Nat) : Int)) := by
  obtain ⟨h1, h2, h3⟩ := h
  have hb : gs[i]? = some (gs[i]'(by omega)) := List.getElem?_eq_getElem (by omega)
  refine ⟨gs[i]'(by omega), h2.cell i _ (by rw [List.getElem?_append_left (by simp; omega), List.getElem?_map, hb]; rfl), fun j hj => ?_⟩
  have := (h3 i _ hb).2.cell j (by rw [rowL_length]; exact hj)
  rwa [rowL_getD x y M i j hj] at this

set_option maxRecDepth 100000 in
set_option maxHeartbeats 4000000 in
theorem refDistance_any (s t : ByteArray) (w : World) (hs : s.size * 4 ≤ 140737488355328) (ht : t.size * 4 ≤ 140737488355328) :
    Calls Tryd.prog 13 #[.string s, .string t] w fun e w' => e = .returned (.tuple #[.int .i64 (distS s.data.toList t.data.toList), .int .i64 (tokErr2 s.data.toList t.data.toList)]) ∧ Below w.heap.size w w' := by
  by_cases h1 : tokErr s.data.toList = 0
  · have c := refTokens_ok s t w hs ht h1
    have e2 : tokErr2 s.data.toList t.data.toList = tokErr t.data.toList := if_pos h1
    by_cases h2 : tokErr t.data.toList = 0
    · have e3 : distS s.data.toList t.data.toList = levR (tokRunes s.data.toList).reverse (tokRunes t.data.toList).reverse := by rw [distS, if_pos (by rw [e2, h2])]
      obtain ⟨lx, _⟩ := tok_len h1
      obtain ⟨ly, _⟩ := tok_len h2
      rw [e2, h2, e3]
      rw [h2] at c
      clear e2 e3 h1 h2
      obtain ⟨x, hx⟩ : ∃ x, tokRunes s.data.toList = x := ⟨_, rfl⟩
      obtain ⟨y, hy⟩ : ∃ y, tokRunes t.data.toList = y := ⟨_, rfl⟩
      rw [hx] at lx ⊢
      rw [hy] at ly ⊢
      simp only [hx, hy] at c
      clear hx hy
      have HT : Hid (levR x.reverse y.reverse = tab x y x.length y.length) := Lib.hid (by unfold tab; rw [List.take_length, List.take_length])
      have tb := fun (w : World) (u v : Value) (hu : Runs w u x) (hv : Runs w v y) => table_any u v x y w hu hv lx ly
      obtain ⟨n, hn⟩ : ∃ n, x.length = n := ⟨_, rfl⟩
      obtain ⟨m, hm⟩ : ∃ m, y.length = m := ⟨_, rfl⟩
      simp only [hn, hm] at c HT tb
      rw [hn] at lx
      rw [hm] at ly
      obtain ⟨D, hD⟩ : ∃ D, levR x.reverse y.reverse = D := ⟨_, rfl⟩
      rw [hD] at HT ⊢
      clear hD hn hm
      have TB := Lib.hid tb; clear tb
      go_enter Tryd.func13, Tryd.ntmps13
      go_wp2_with fail
      refine c.mono ?_
      rintro e w1 ⟨A, cc, B, d, rfl, R1, R2, B1⟩
      clear c
      have t1 := TB.out w1 _ _ R1.out R2.out
      go_wp2_with fail
      refine t1.mono ?_
      rintro e w2 ⟨G, gs, rfl, T, b2⟩
      obtain ⟨b, e1, e2⟩ := T.at n (by omega)
      have e3 := e2 m (by omega)
      rw [← HT.out] at e3
      have B2 := Lib.hid (B1.out.trans (b2.mono B1.out.size))
      clear t1 T e2 b2 R1 R2
      have i1 : (n : Int) < ((n : Int) + 1) := by omega
      have i2 : (m : Int) < ((m : Int) + 1) := by omega
      go_wp2
      go_ret2
      exact ⟨rfl, B2.out⟩
    · have e3 : distS s.data.toList t.data.toList = 0 := by rw [distS, if_neg (by rw [e2]; exact h2)]
      rw [e2, e3]
      clear e2 e3 h1
      obtain ⟨er, he⟩ : ∃ er, tokErr t.data.toList = er := ⟨_, rfl⟩
      rw [he] at h2 ⊢
      simp only [he] at c
      clear he
      go_enter Tryd.func13, Tryd.ntmps13
      go_wp2_with fail
      refine c.mono ?_
      rintro e w1 ⟨A, cc, B, d, rfl, R1, R2, B1⟩
      clear c R1 R2
      go_wp2
      go_ret2
      exact ⟨rfl, B1.out⟩
  · have c := refTokens_bad s t w hs h1
    have e2 : tokErr2 s.data.toList t.data.toList = tokErr s.data.toList := if_neg h1
    have e3 : distS s.data.toList t.data.toList = 0 := by rw [distS, if_neg (by rw [e2]; exact h1)]
    rw [e2, e3]
    clear e2 e3
    obtain ⟨er, he⟩ : ∃ er, tokErr s.data.toList = er := ⟨_, rfl⟩
    rw [he] at h1 ⊢
    simp only [he] at c
    clear he
    go_enter Tryd.func13, Tryd.ntmps13
    go_wp2_with fail
    refine c.mono ?_
    rintro e w1 ⟨rfl, b1⟩
    have B1 := Lib.hid b1
    clear c b1
    go_wp2
    go_ret2
    exact ⟨rfl, B1.out⟩
end Go.Proofs.YthigbnklekdemaaDoor
