/- The law TextParts, walked: pieces stand one behind the other, none empty, by turns tokens and not, tokens of letters alone; all together are the document. -/
import Derived.Test.YtephhejfkihhgaaDoorTAlive
namespace Go.Proofs.YtephhejfkihhgaaDoor
open Go.RowKit Go.Shelf

theorem quiet_letter (r : Int) (b : Bool) (h : letterB r = b) (w : World) : Calls Tryd.prog 22 #[.int .i32 r] w fun e w' => e = .returned (.bool b) ∧ w' = w := by
  have := letter_any r w; rw [h] at this; exact this.mono fun e w' hh => ⟨hh.1, hh.2.symm⟩

set_option maxRecDepth 100000 in
set_option maxHeartbeats 2000000 in
theorem parts_no (s : ByteArray) (w : World) (h : Okw w) (hA : s.size ≤ 4000) (hv : Lib.validD s.data.toList = false) :
    Calls Tryd.prog 5 #[.string s] w (RetTrue w) := by
  have hd : docErr s.data.toList = 3 := by unfold docErr; rw [← Lib.size_eq, if_neg (by omega), hv]; rfl
  have c1 := fun w h => spans_any s w h
  rw [hd] at c1
  rw [show docSpans s.data.toList = [] by unfold docSpans; rw [hd]; rfl] at c1
  have C1 := Lib.hid c1
  have d1 := decAt_no s (by omega) hv
  have C0 := Lib.hid (alive2_any w h)
  have hA' : decide ((4000 : Int) < (s.size : Int)) = false := by simp; omega
  clear hv hd c1
  go_enter Tryd.func5, Tryd.ntmps5
  go_wp2_with (go_at_call 10; refine C0.out.mono ?_; rintro e w0 ⟨rfl, hb0⟩)
  have h0 := h.below hb0
  refine (C1.out _ h0).mono ?_
  rintro e w1 ⟨A1, c1, rfl, hr1, hb1⟩
  have h1 := h0.below hb1
  go_wp2_with fail
  refine (d1 _ h1).mono ?_
  rintro e w2 ⟨A2, c2, rfl, hr2, hb2⟩
  clear hr1 hr2
  go_wp2
  go_ret
  exact ⟨rfl, hb0.trans ((hb1.trans (hb2.mono hb1.size)).mono hb0.size)⟩

set_option maxRecDepth 100000 in
set_option maxHeartbeats 4000000 in
theorem parts_yes (s : ByteArray) (w : World) (h : Okw w) (hA : s.size ≤ 4000) (hv : Lib.validD s.data.toList = true) :
    Calls Tryd.prog 5 #[.string s] w (RetTrue w) := by
  have hd : docErr s.data.toList = 0 := by unfold docErr; rw [← Lib.size_eq, if_neg (by omega), hv]; rfl
  have hds : docSpans s.data.toList = spansL s.data.toList := by unfold docSpans; rw [if_pos hd]
  have c1 := fun w h => spans_any s w h
  rw [hd, hds] at c1
  have hpa := parts_at s.data.toList hv
  have hpe := posn_end s.data.toList hv
  have hck : checkB s.data.toList (spansL s.data.toList) = true := by unfold checkB; rw [hds]; simp [hd]
  have hll := spansL_len s.data.toList
  rw [← Lib.size_eq] at hpe hll
  simp only [← Lib.size_eq] at hpa
  obtain ⟨l, hl⟩ : ∃ l, spansL s.data.toList = l := ⟨_, rfl⟩
  rw [hl] at c1 hpa hpe hck hll
  obtain ⟨n, hn⟩ : ∃ n, l.length = n := ⟨_, rfl⟩
  rw [hn] at c1 hpa hpe hll
  have C1 := Lib.hid c1
  have HPA := Lib.hid hpa
  have HPE := Lib.hid hpe
  have HCK := Lib.hid hck
  have Hn := Lib.hid hn
  have C0 := Lib.hid (alive2_any w h)
  have hA' : decide ((4000 : Int) < (s.size : Int)) = false := by simp; omega
  clear hv hd c1 hds hpa hpe hck hl hn
  go_enter Tryd.func5, Tryd.ntmps5
  go_wp2_with (go_at_call 10; refine C0.out.mono ?_; rintro e w0 ⟨rfl, hb0⟩)
  have h0 := h.below hb0
  refine (C1.out _ h0).mono ?_
  rintro e w1 ⟨A1, c1, rfl, hr1, hb1⟩
  have h1 := h0.below hb1
  have hB1 : Below w.heap.size w w1 := hb0.trans (hb1.mono hb0.size)
  clear hb0 hb1 h0
  have hr0 := hr1
  obtain ⟨A', c', e', hxc, ⟨hxm, _⟩, hxx⟩ := hr1
  rw [Hn.out] at e' hxc hxx
  obtain ⟨rfl, rfl⟩ : A1 = A' ∧ c1 = c' := by simpa using e'
  clear e'
  unfold maxLen at hxm
  have HX := Lib.hid hxx; clear hxx
  go_wp2
  go_loopw [7, 41] (fun s7 s41 wr => ∃ k : Nat, k ≤ n ∧ s41 = .int .i64 k ∧ s7 = .int .i64 (posn l k) ∧ Below w1.heap.size w1 wr) (fun _ s41 _ => n - (intOf s41).toNat)
  case atStart => exact ⟨0, Nat.zero_le _, rfl, rfl, Below.refl _ _⟩
  case round =>
    obtain ⟨k, hk, rfl, rfl, hB⟩ := hrel
    obtain ⟨W1, rfl⟩ : ∃ W1, W1 = wr := ⟨wr, rfl⟩
    by_cases hlt : k < n
    · obtain ⟨f, t, b, run, e1, e2, e3, e4, e5, e6, e7, e8, e9, e10⟩ := HPA.out k hlt
      obtain ⟨bb, o, rfl, hb, hc1⟩ := HX.out (by omega)
      obtain ⟨g1, g2, g3⟩ := hc1 k hlt
      have e1' : l.getD k (0, 0, false) = ((f : Int), (t : Int), b) := e1
      rw [e1'] at g1 g2 g3
      dsimp only at g1 g2 g3
      have g1 := (hB.cell (p := ⟨bb, o + k * 3, none⟩) hb).trans g1
      have g2 := (hB.cell (p := ⟨bb, o + k * 3 + 1, none⟩) hb).trans g2
      have g3 := (hB.cell (p := ⟨bb, o + k * 3 + 2, none⟩) hb).trans g3
      have i1 : (k : Int) < (n : Int) := by omega
      have hps : posn l (k + 1) = (t : Int) := by rw [posn_succ, e1]
      have HPS := Lib.hid hps
      rw [e2]
      clear e1 e1' hps e2
      have hB3 : Below w1.heap.size w1 (W1.alloc (.cells #[.int .i64 f, .int .i64 t, .bool b] 43)) := hB.alloc hB.size _
      have hxd : (s.extract f t).data.toList = encL run := by rw [Lib.extract_data, ← e7]
      have dx := decAt_yes (s.extract f t) (by simp; omega) (by rw [hxd]; exact e9)
      rw [hxd, e8] at dx
      clear hxd e7 e8 e9
      obtain ⟨rn, hrn⟩ : ∃ rn, run.length = rn := ⟨_, rfl⟩
      have Hrn := Lib.hid hrn
      have E10 := Lib.hid e10
      have hrl : rn ≤ 4000 * 4 ∨ True := .inr trivial
      clear e6 e10 hrl
      go_wp2
      obtain ⟨W2, hW2⟩ : ∃ W2, W1.alloc (.cells #[.int .i64 f, .int .i64 t, .bool b] 43) = W2 := ⟨_, rfl⟩
      obtain ⟨P, hP⟩ : ∃ P, W1.heap.size = P := ⟨_, rfl⟩
      have k0 : W2.cell? ⟨P, 0, none⟩ = some (.int .i64 f) := by rw [← hW2, ← hP, cell_of_row _ _ _ _ _ _ (heap_alloc_new W1 _)]; rfl
      have k1 : W2.cell? ⟨P, 1, none⟩ = some (.int .i64 t) := by rw [← hW2, ← hP, cell_of_row _ _ _ _ _ _ (heap_alloc_new W1 _)]; rfl
      have k2 : W2.cell? ⟨P, 2, none⟩ = some (.bool b) := by rw [← hW2, ← hP, cell_of_row _ _ _ _ _ _ (heap_alloc_new W1 _)]; rfl
      have hPs : P < W2.heap.size := by rw [← hW2, ← hP]; simp
      rw [hW2] at hB3 ⊢
      rw [hP]
      have l1 : decide ((t : Int) ≤ (f : Int)) = false := by simp; omega
      have l2 : decide ((s.size : Int) < (t : Int)) = false := by simp; omega
      have l1' : decide (t ≤ f) = false := by simp; omega
      have l2' : decide (s.size < t) = false := by simp; omega
      clear hW2 hP g1 g2 g3 hB
      by_cases hk0 : k = 0
      · subst hk0
        go_big_quiet (fail)
        go_wp2_with fail
        have hbd : Below W2.heap.size W2 (W2.drewN nq) := below_draws (Below.refl _ _) nq
        have h2 : Okw (W2.drewN nq) := (h1.below hB3).below hbd
        refine (dx _ h2).mono ?_
        rw [Hrn.out]
        rintro e w4 ⟨A4, c4, rfl, hr4, hb4⟩
        obtain ⟨A5, c5, e', hxc5, ⟨hxm5, _⟩, hxx5⟩ := hr4
        rw [Hrn.out] at e' hxc5 hxx5
        obtain ⟨rfl, rfl⟩ : A4 = A5 ∧ c4 = c5 := by simpa using e'
        have HX5 := Lib.hid hxx5
        have hb24 : Below W2.heap.size W2 w4 := hbd.trans hb4
        have m1 := (hb24.cell (p := ⟨P, 1, none⟩) hPs).trans k1
        have m2 := (hb24.cell (p := ⟨P, 2, none⟩) hPs).trans k2
        have hB4 : Below w1.heap.size w1 w4 := hB3.trans (hb24.mono hB3.size)
        unfold maxLen at hxm5
        clear e' hxx5 hb4 hbd h2 dx k0 k1 k2 l1 l2 l1' l2' hb24
        go_wp2
        go_loopw [93] (fun s93 wr => ∃ i q : Nat, i ≤ rn ∧ s93 = .int .i64 i ∧ wr = w4.drewN q) (fun s93 _ => rn - (intOf s93).toNat)
        case atStart => exact ⟨0, 0, Nat.zero_le _, rfl, rfl⟩
        case round =>
          obtain ⟨i, q, hi, rfl, rfl⟩ := hrel
          by_cases hir : i < rn
          · obtain ⟨b5, o5, rfl, hb5, hc5⟩ := HX5.out (by omega)
            have r1 := hc5 i hir
            have r2 := E10.out (run.getD i 0) (by rw [List.getD_eq_getElem?_getD, List.getElem?_eq_getElem (by rw [Hrn.out]; exact hir)]; simp)
            obtain ⟨r, hr⟩ : ∃ r, run.getD i 0 = r := ⟨_, rfl⟩
            rw [hr] at r1 r2
            have R2 := Lib.hid r2
            clear hr r2 hc5
            have i3 : (i : Int) < (rn : Int) := by omega
            obtain ⟨W5, hW5⟩ : ∃ W5, w4.drewN q = W5 := ⟨_, rfl⟩
            have r1 : W5.cell? ⟨b5, o5 + i, none⟩ = some (.int .i32 r) := by rw [← hW5]; exact r1
            have m2' : W5.cell? ⟨P, 2, none⟩ = some (.bool b) := by rw [← hW5]; exact m2
            rw [hW5]
            have HW5 := Lib.hid hW5
            clear hW5
            go_wp2
            go_quiet ((go_at_call 22; exact Calls.quiet_of_same (quiet_letter r b R2.out _)))
            go_wp2
            go_roundw
            case rel => exact ⟨i + 1, q + nq, by omega, by go_num, by rw [← HW5.out, World.drewN_drewN]⟩
            case measure => simp [intOf]; omega
          · obtain rfl : rn = i := by omega
            go_wp2
            go_roundw
            case rel => exact ⟨0 + 1, by omega, by go_num, by rw [HPS.out], below_draws hB4 _⟩
            case measure => simp [intOf]; omega
      · obtain ⟨j, rfl⟩ : ∃ j, k = j + 1 := ⟨k - 1, by omega⟩
        obtain ⟨_, _, q3⟩ := hc1 j (by omega)
        have q3 := (hB3.cell (p := ⟨bb, o + j * 3 + 2, none⟩) hb).trans q3
        have hne := e5 j rfl
        obtain ⟨b', hb'⟩ : ∃ b', (l.getD j (0, 0, false)).2.2 = b' := ⟨_, rfl⟩
        have hb'' : (l.getD j sp0).2.2 = b' := hb'
        rw [hb'] at q3
        rw [hb''] at hne
        have l3 : (b' == b) = false := by simpa using hne
        clear hb' hb'' hne e5 hc1
        go_big_quiet (fail)
        go_wp2_with fail
        have hbd : Below W2.heap.size W2 (W2.drewN nq) := below_draws (Below.refl _ _) nq
        have h2 : Okw (W2.drewN nq) := (h1.below hB3).below hbd
        refine (dx _ h2).mono ?_
        rw [Hrn.out]
        rintro e w4 ⟨A4, c4, rfl, hr4, hb4⟩
        obtain ⟨A5, c5, e', hxc5, ⟨hxm5, _⟩, hxx5⟩ := hr4
        rw [Hrn.out] at e' hxc5 hxx5
        obtain ⟨rfl, rfl⟩ : A4 = A5 ∧ c4 = c5 := by simpa using e'
        have HX5 := Lib.hid hxx5
        have hb24 : Below W2.heap.size W2 w4 := hbd.trans hb4
        have m1 := (hb24.cell (p := ⟨P, 1, none⟩) hPs).trans k1
        have m2 := (hb24.cell (p := ⟨P, 2, none⟩) hPs).trans k2
        have hB4 : Below w1.heap.size w1 w4 := hB3.trans (hb24.mono hB3.size)
        unfold maxLen at hxm5
        clear e' hxx5 hb4 hbd h2 dx k0 k1 k2 l1 l2 l1' l2' hb24
        go_wp2
        go_loopw [93] (fun s93 wr => ∃ i q : Nat, i ≤ rn ∧ s93 = .int .i64 i ∧ wr = w4.drewN q) (fun s93 _ => rn - (intOf s93).toNat)
        case atStart => exact ⟨0, 0, Nat.zero_le _, rfl, rfl⟩
        case round =>
          obtain ⟨i, q, hi, rfl, rfl⟩ := hrel
          by_cases hir : i < rn
          · obtain ⟨b5, o5, rfl, hb5, hc5⟩ := HX5.out (by omega)
            have r1 := hc5 i hir
            have r2 := E10.out (run.getD i 0) (by rw [List.getD_eq_getElem?_getD, List.getElem?_eq_getElem (by rw [Hrn.out]; exact hir)]; simp)
            obtain ⟨r, hr⟩ : ∃ r, run.getD i 0 = r := ⟨_, rfl⟩
            rw [hr] at r1 r2
            have R2 := Lib.hid r2
            clear hr r2 hc5
            have i3 : (i : Int) < (rn : Int) := by omega
            obtain ⟨W5, hW5⟩ : ∃ W5, w4.drewN q = W5 := ⟨_, rfl⟩
            have r1 : W5.cell? ⟨b5, o5 + i, none⟩ = some (.int .i32 r) := by rw [← hW5]; exact r1
            have m2' : W5.cell? ⟨P, 2, none⟩ = some (.bool b) := by rw [← hW5]; exact m2
            rw [hW5]
            have HW5 := Lib.hid hW5
            clear hW5
            go_wp2
            go_quiet ((go_at_call 22; exact Calls.quiet_of_same (quiet_letter r b R2.out _)))
            go_wp2
            go_roundw
            case rel => exact ⟨i + 1, q + nq, by omega, by go_num, by rw [← HW5.out, World.drewN_drewN]⟩
            case measure => simp [intOf]; omega
          · obtain rfl : rn = i := by omega
            go_wp2
            go_roundw
            case rel => exact ⟨j + 1 + 1, by omega, by go_num, by rw [HPS.out], below_draws hB4 _⟩
            case measure => simp [intOf]; omega
    · obtain rfl : n = k := by omega
      have hBw : Below w.heap.size w W1 := hB1.trans (hB.mono hB1.size)
      have h2 := h1.below hB
      have cc := check_any s _ l W1 h2 (hr0.below hB)
      rw [HCK.out] at cc
      have CC := Lib.hid cc
      clear cc
      rw [HPE.out]
      go_wp2_with (go_at_call 19; refine CC.out.mono ?_; rintro e w3 ⟨rfl, hb3⟩)
      go_ret
      exact ⟨rfl, hBw.trans (hb3.mono hBw.size)⟩

set_option maxRecDepth 100000 in
set_option maxHeartbeats 1000000 in
theorem parts_walk (s : ByteArray) (w : World) (h : Okw w) (hs : s.size ≤ maxLen) :
    Calls Tryd.prog 5 #[.string s] w (RetTrue w) := by
  unfold maxLen at hs
  by_cases hA : 4000 < s.size
  · have C0 := Lib.hid (alive2_any w h)
    go_enter Tryd.func5, Tryd.ntmps5
    go_wp2_with (go_at_call 10; refine C0.out.mono ?_; rintro e w0 ⟨rfl, hb0⟩)
    go_ret
    exact ⟨rfl, hb0⟩
  cases hv : Lib.validD s.data.toList
  · exact parts_no s w h (by omega) hv
  · exact parts_yes s w h (by omega) hv
end Go.Proofs.YtephhejfkihhgaaDoor
