/- DawgAll, walked over what dawg's functions answer. -/
import Derived.Test.YtnjhbblhlgpgdaaDoorPk19
import Derived.Test.YtnjhbblhlgpgdaaDoorZAllS
import Derived.Test.YtnjhbblhlgpgdaaDoorPk13
import Derived.Test.YtnjhbblhlgpgdaaDoorPk5
namespace Go.Proofs.YtnjhbblhlgpgdaaDoor
open Go.RowKit Go.Shelf
attribute [local go_sem] Oper.semAt_some
set_option linter.unusedSimpArgs false
set_option linter.unusedVariables false

/-- All of no automaton: nothing is handed on. -/
theorem all_none_stops (n : Nat) (hn : 1 ≤ n) (Bd n₀ : Nat) (L : List Wrd) (w : World) (hBd : Bd < w.heap.size) (hcd : w.cell? ⟨Bd, 0, none⟩ = some (.pointer none)) :
    SeqStopsK Fence.wide n Tryd.prog 51 #[.pointer (some ⟨Bd, 0, none⟩)] (allEnc L) (Keep1 n₀ Bd) (fun ys => ys = []) (fun pre => False) 0 w := by
  intro l J Jx W hW hJ _ hY h0
  have hcd' := (hW.cell (p := ⟨Bd, 0, none⟩) hBd).trans hcd
  have CL := Lib.hid (len_nil W)
  clear hW hcd hJ hY
  refine callsIn_of_wp Tryd.func51 rfl trivial ?_ rfl
  simp only [Tryd.ntmps51, List.size_toArray, List.length_cons, List.length_nil, Nat.reduceAdd, Nat.reduceSub, Array.replicate_succ, Array.replicate_zero, List.push_toArray, List.append_toArray, List.nil_append, List.cons_append]
  gi_wp2_with (first
    | (refine ⟨trivial, ?_⟩; gi_at_call 18; refine (callsIn_wide.2 CL.out).mono ?_; rintro e w' ⟨rfl, e1⟩; obtain rfl := e1.symm))
  gi_loopw [8] (fun s8 wr => s8 = .int .i64 0 ∧ wr = W) (fun _ _ => 0)
  case atStart => exact ⟨rfl, rfl⟩
  case round =>
    obtain ⟨rfl, rfl⟩ := hrel
    gi_wp2
    go_end0
    exact ⟨⟨_, rfl⟩, .inl ⟨[], rfl, h0⟩⟩

theorem all_snoc {m N x : Nat} {z : List Nat} (h : z ++ [x] <+: List.range' m (N - m)) : z = List.range' m z.length ∧ x = m + z.length ∧ z.length < N - m := by
  obtain ⟨t, ht⟩ := h
  have hl := congrArg List.length ht
  simp only [List.length_append, List.length_cons, List.length_nil, List.length_range'] at hl
  have e : List.range' m (N - m) = List.range' m (z.length + 1) ++ List.range' (m + (z.length + 1)) (N - m - (z.length + 1)) := by
    rw [List.range'_append_1]; congr 1; omega
  rw [e] at ht
  have h1 := List.append_inj ht (by simp)
  have h2 := h1.1
  rw [List.range'_concat] at h2
  have h3 := List.append_inj h2 (by simp)
  refine ⟨h3.1, ?_, by omega⟩
  have := h3.2
  simp at this
  omega
theorem all_leaves {n B : Nat} {w W : World} {tmps : Array Value} (ht : tmps.getD 4 undef = .pointer (some ⟨B, 0, none⟩)) (hc : W.cell? ⟨B, 0, none⟩ = some (.bool true)) (hb : Below w.heap.size w W) :
    LeavesInM Fence.wide n Tryd.prog Tryd.f5 tmps (RetTrue w) [] .returning W := by
  refine ⟨.bool true, ?_, ⟨rfl, hb⟩⟩
  have ht' : tmps[4]?.getD undef = .pointer (some ⟨B, 0, none⟩) := by rw [← Array.getD_eq_getD_getElem?]; exact ht
  simp [results, Tryd.f5, go_sem, ht', hc]
theorem runs_box {w : World} {b0 : Nat} {T : TypeId} {A : Option Addr} {n c : Nat} {u v' : Value} {r : List Wrd} (hb : Boxed w b0 T (.slice A n c)) (h : WRuns w u r) : WRuns (w.setCell ⟨b0, 0, none⟩ v') u r := by
  obtain ⟨A', c', e, hc, hm, hx⟩ := h
  refine ⟨A', c', e, hc, hm, fun hp => ?_⟩
  obtain ⟨b, o, eA, hlt, hcell⟩ := hx hp
  have hne : b ≠ b0 := by
    rintro rfl
    obtain ⟨x, hx0⟩ : ∃ x, r[0]? = some x := ⟨_, List.getElem?_eq_getElem hp⟩
    have := hcell 0 x hx0 0 _ rfl
    have hc0 := hb.cell
    unfold Boxed at hb
    unfold World.cell? at this
    rw [hb] at this
    change (#[Value.slice A n c] : Array Value)[o + 0 * 2 + 0]? = _ at this
    obtain ⟨h1, h2⟩ := Array.getElem?_eq_some_iff.1 this
    rw [Array.getElem_singleton] at h2
    cases h2
  refine ⟨b, o, eA, by rw [World.size_setCell]; exact hlt, fun j x hj i u hu => ?_⟩
  rw [World.cell?_of_block (Below.heap_setCell _ _ _ _ hne)]
  exact hcell j x hj i u hu

set_option maxRecDepth 100000 in
set_option maxHeartbeats 64000000 in
theorem dawgAll_walk (u : Value) (l : List Wrd) (st : Nat) (hst : st ≤ 255) (w : World) (h : Okw w) (hu : WRuns w u l) (hl : l.length ≤ 2000000) (hz : szW l) :
    Calls Tryd.prog 5 #[u, .int .u8 (st : Int)] w (RetTrue w) := by
  have n1 := fun w hu => refNormal9_any u l w hu hl hz
  have hzn := szW_nor hz
  have hln := worS_len l
  have g1 := fun v w (hv : WRuns w v (worS l)) => great10_det v (worS l) w hv (fun b hb => by have := hzn b hb; omega)
  have d1 := fun v w hO (hv : WRuns w v (worS l)) => newd_any v (worS l) w hO hv (by omega) hzn
  have hwi : worE l = 0 → wisS (worS l) = 0 := fun e => wor_is e
  clear hz
  obtain ⟨gr, hgr⟩ : ∃ z, gr10 (worS l) = z := ⟨_, rfl⟩
  obtain ⟨ea, hea⟩ : ∃ z, worE l = z := ⟨_, rfl⟩
  obtain ⟨X, hX⟩ : ∃ z, worS l = z := ⟨_, rfl⟩
  simp only [hgr] at g1
  simp only [hea, hX] at n1
  rw [hea] at hwi
  simp only [hX] at g1 d1 hwi hln
  obtain ⟨nx, hnx⟩ : ∃ z, X.length = z := ⟨_, rfl⟩
  have hnb : nx ≤ 2000000 := by rw [← hnx]; omega
  obtain ⟨Au, cu, rfl⟩ := hu.slice
  obtain ⟨nl, hnl⟩ : ∃ z, l.length = z := ⟨_, rfl⟩
  rw [hnl] at hu n1 ⊢
  have HU := Lib.hid hu; have G1 := Lib.hid g1; have N1 := Lib.hid n1; have D1 := Lib.hid d1; have HWI := Lib.hid hwi; have HNX := Lib.hid hnx
  -- the boxes
  obtain ⟨b0, hb0⟩ : ∃ z, w.heap.size = z := ⟨_, rfl⟩
  have x1 := Boxed.new w 22 (.slice Au nl cu)
  have x2 := Boxed.new (w.alloc (.cells #[.slice Au nl cu] 22)) 5 (.int .u8 (st : Int))
  have x3 := Boxed.new ((w.alloc (.cells #[.slice Au nl cu] 22)).alloc (.cells #[.int .u8 (st : Int)] 5)) 4 (.bool false)
  have bb : Below w.heap.size w (((w.alloc (.cells #[.slice Au nl cu] 22)).alloc (.cells #[.int .u8 (st : Int)] 5)).alloc (.cells #[.bool false] 4)) := (((Below.refl _ w).alloc (Nat.le_refl _) _).alloc (by simp) _).alloc (by simp <;> omega) _
  obtain ⟨w0, hw0⟩ : ∃ z, ((w.alloc (.cells #[.slice Au nl cu] 22)).alloc (.cells #[.int .u8 (st : Int)] 5)).alloc (.cells #[.bool false] 4) = z := ⟨_, rfl⟩
  have x1' := (x1.alloc (.cells #[.int .u8 (st : Int)] 5)).alloc (.cells #[.bool false] 4)
  have x2' := x2.alloc (.cells #[.bool false] 4)
  simp only [World.size_alloc, hb0] at x1' x2' x3
  rw [hw0] at x1' x2' x3 bb
  have XL := Lib.hid x1'; have XS := Lib.hid x2'; have XR := Lib.hid x3; have B0 := Lib.hid bb; have HW0 := Lib.hid hw0; have HB0 := Lib.hid hb0
  have U0 := Lib.hid (hu.below bb); have K0 : Hid (Okw w0) := Lib.hid (h.below bb)
  clear hu g1 n1 d1 hwi hnx hgr hea hX hzn hln hl x1 x2 x3 bb hw0 x1' x2' hb0
  cases gr
  rotate_left
  · refine (callsIn_wide (n := 6)).1 ?_
    refine callsIn_of_wp_marks Tryd.func5 rfl trivial ?_ rfl
    simp only [Tryd.ntmps5, List.size_toArray, List.length_cons, List.length_nil, Nat.reduceAdd, Nat.reduceSub, Array.replicate_succ, Array.replicate_zero, List.push_toArray, List.append_toArray, List.nil_append, List.cons_append]
    gi_wp2_with (first
      | (refine ⟨trivial, ?_⟩; gi_at_call 10; rw [HW0.out, HB0.out]; refine (callsIn_wide.2 (alive10_any _ K0.out)).mono ?_; rintro e w1 ⟨rfl, b1⟩; have XL1 := Lib.hid (Boxed.kept XL.out (grown_none b1) (by simp)); have XS1 := Lib.hid (Boxed.kept XS.out (grown_none b1) (by simp)); have XR1 := Lib.hid (Boxed.kept XR.out (grown_none b1) (by simp)); have cL := XL1.out.cell; have U1 := Lib.hid (U0.out.below b1); have K1 : Hid (Okw w1) := Lib.hid (K0.out.below b1); have B1 := Lib.hid (B0.out.trans (b1.mono B0.out.size)); clear b1)
      | (refine ⟨trivial, ?_⟩; gi_at_call 29; refine (callsIn_wide.2 (N1.out _ U1.out)).mono ?_; rintro e w2 ⟨va, rfl, ra, b2⟩; obtain ⟨Aa, ka, ea2⟩ := ra.slice; rw [HNX.out] at ea2; subst ea2; have XL2 := Lib.hid (Boxed.kept XL1.out (grown_none b2) (by simp)); have XS2 := Lib.hid (Boxed.kept XS1.out (grown_none b2) (by simp)); have XR2 := Lib.hid (Boxed.kept XR1.out (grown_none b2) (by simp)); have K2 : Hid (Okw w2) := Lib.hid (K1.out.below b2); have B2 := Lib.hid (B1.out.trans (b2.mono B1.out.size)); have R2 := Lib.hid ra; clear b2 ra cL; have cL := XL2.out.cell; have fL := XL2.out.frozen)
      | (refine ⟨trivial, ?_⟩; gi_at_call 11; have XL3 := Lib.hid (XL2.out.set (.slice Aa nx ka)); have XS3 := Lib.hid (XS2.out.other (show b0 + 1 ≠ b0 by omega) (.slice Aa nx ka)); have XR3 := Lib.hid (XR2.out.other (show b0 + 1 + 1 ≠ b0 by omega) (.slice Aa nx ka)); have R3 := Lib.hid (runs_box (v' := .slice Aa nx ka) XL2.out R2.out); have hb3 := B2.out.setCell (p := ⟨b0, 0, none⟩) (by rw [HB0.out]; exact Nat.le_refl _) (.slice Aa nx ka); obtain ⟨w3, hw3⟩ : ∃ z, w2.setCell ⟨b0, 0, none⟩ (.slice Aa nx ka) = z := ⟨_, rfl⟩; rw [hw3] at XL3 XS3 XR3 R3 hb3 ⊢; have K3 : Hid (Okw w3) := Lib.hid (h.below hb3); have B3 := Lib.hid hb3; clear hb3 hw3 cL fL; refine (callsIn_wide.2 (G1.out _ _ R3.out)).mono ?_; rintro e w4 ⟨rfl, b4⟩; have XL4 := Lib.hid (Boxed.kept XL3.out (grown_none b4) (by simp)); have XS4 := Lib.hid (Boxed.kept XS3.out (grown_none b4) (by simp)); have XR4 := Lib.hid (Boxed.kept XR3.out (grown_none b4) (by simp)); have K4 : Hid (Okw w4) := Lib.hid (K3.out.below b4); have R4 := Lib.hid (R3.out.below b4); have B4 := Lib.hid (B3.out.trans (b4.mono B3.out.size)); clear b4; have cL := XL4.out.cell; have cR := XR4.out.cell; have fR := XR4.out.frozen; have cS := XS4.out.cell)
      | fail)
    exact all_leaves rfl ((XR4.out.set (.bool true)).cell) (B4.out.setCell (p := ⟨b0 + 1 + 1, 0, none⟩) (by show w.heap.size ≤ b0 + 1 + 1; have := HB0.out; omega) _)
  by_cases h0 : ea = 0
  rotate_left
  · have h0' : (ea == 0) = false := by simpa using h0
    have h0'' : (ea != 0) = true := by simpa using h0
    refine (callsIn_wide (n := 6)).1 ?_
    refine callsIn_of_wp_marks Tryd.func5 rfl trivial ?_ rfl
    simp only [Tryd.ntmps5, List.size_toArray, List.length_cons, List.length_nil, Nat.reduceAdd, Nat.reduceSub, Array.replicate_succ, Array.replicate_zero, List.push_toArray, List.append_toArray, List.nil_append, List.cons_append]
    gi_wp2_with (first
      | (refine ⟨trivial, ?_⟩; gi_at_call 10; rw [HW0.out, HB0.out]; refine (callsIn_wide.2 (alive10_any _ K0.out)).mono ?_; rintro e w1 ⟨rfl, b1⟩; have XL1 := Lib.hid (Boxed.kept XL.out (grown_none b1) (by simp)); have XS1 := Lib.hid (Boxed.kept XS.out (grown_none b1) (by simp)); have XR1 := Lib.hid (Boxed.kept XR.out (grown_none b1) (by simp)); have cL := XL1.out.cell; have U1 := Lib.hid (U0.out.below b1); have K1 : Hid (Okw w1) := Lib.hid (K0.out.below b1); have B1 := Lib.hid (B0.out.trans (b1.mono B0.out.size)); clear b1)
      | (refine ⟨trivial, ?_⟩; gi_at_call 29; refine (callsIn_wide.2 (N1.out _ U1.out)).mono ?_; rintro e w2 ⟨va, rfl, ra, b2⟩; obtain ⟨Aa, ka, ea2⟩ := ra.slice; rw [HNX.out] at ea2; subst ea2; have XL2 := Lib.hid (Boxed.kept XL1.out (grown_none b2) (by simp)); have XS2 := Lib.hid (Boxed.kept XS1.out (grown_none b2) (by simp)); have XR2 := Lib.hid (Boxed.kept XR1.out (grown_none b2) (by simp)); have K2 : Hid (Okw w2) := Lib.hid (K1.out.below b2); have B2 := Lib.hid (B1.out.trans (b2.mono B1.out.size)); have R2 := Lib.hid ra; clear b2 ra cL; have cL := XL2.out.cell; have fL := XL2.out.frozen)
      | (refine ⟨trivial, ?_⟩; gi_at_call 11; have XL3 := Lib.hid (XL2.out.set (.slice Aa nx ka)); have XS3 := Lib.hid (XS2.out.other (show b0 + 1 ≠ b0 by omega) (.slice Aa nx ka)); have XR3 := Lib.hid (XR2.out.other (show b0 + 1 + 1 ≠ b0 by omega) (.slice Aa nx ka)); have R3 := Lib.hid (runs_box (v' := .slice Aa nx ka) XL2.out R2.out); have hb3 := B2.out.setCell (p := ⟨b0, 0, none⟩) (by rw [HB0.out]; exact Nat.le_refl _) (.slice Aa nx ka); obtain ⟨w3, hw3⟩ : ∃ z, w2.setCell ⟨b0, 0, none⟩ (.slice Aa nx ka) = z := ⟨_, rfl⟩; rw [hw3] at XL3 XS3 XR3 R3 hb3 ⊢; have K3 : Hid (Okw w3) := Lib.hid (h.below hb3); have B3 := Lib.hid hb3; clear hb3 hw3 cL fL; refine (callsIn_wide.2 (G1.out _ _ R3.out)).mono ?_; rintro e w4 ⟨rfl, b4⟩; have XL4 := Lib.hid (Boxed.kept XL3.out (grown_none b4) (by simp)); have XS4 := Lib.hid (Boxed.kept XS3.out (grown_none b4) (by simp)); have XR4 := Lib.hid (Boxed.kept XR3.out (grown_none b4) (by simp)); have K4 : Hid (Okw w4) := Lib.hid (K3.out.below b4); have R4 := Lib.hid (R3.out.below b4); have B4 := Lib.hid (B3.out.trans (b4.mono B3.out.size)); clear b4; have cL := XL4.out.cell; have cR := XR4.out.cell; have fR := XR4.out.frozen; have cS := XS4.out.cell)
      | fail)
    exact all_leaves rfl ((XR4.out.set (.bool true)).cell) (B4.out.setCell (p := ⟨b0 + 1 + 1, 0, none⟩) (by show w.heap.size ≤ b0 + 1 + 1; have := HB0.out; omega) _)
  subst h0
  have hn := HWI.out (by first | rfl | trivial)
  have hk := dgOk hn
  obtain ⟨W, hW⟩ : ∃ z, rnW X = z := ⟨_, rfl⟩
  obtain ⟨Q, hQ⟩ : ∃ z, staQ W = z := ⟨_, rfl⟩
  rw [hW, hQ] at hk
  have cn : ∀ Aa ka w, Okw w → WRuns w (.slice Aa nx ka) X → Calls Tryd.prog 12 #[.slice Aa nx ka] w fun e w' => ∃ d, e = .returned (.tuple #[.pointer (some ⟨d, 0, none⟩), .int .i64 0]) ∧ DgAt w' d Q X ∧ Below w.heap.size w w' := fun Aa ka w hO hv => (D1.out _ w hO hv).mono (by
    rintro e w' ⟨hb, hp⟩
    rcases hp with ⟨hne, _⟩ | ⟨_, d, e1, hd⟩
    · exact absurd hn hne
    · rw [hW, hQ] at hd
      exact ⟨d, e1, hd, hb⟩)
  have CN := Lib.hid cn
  have HKO := Lib.hid hk; have HNN := Lib.hid hn; have HQ := Lib.hid (show staQ (rnW X) = Q by rw [hW, hQ])
  clear cn hk hQ hW hn D1 HWI
  refine (callsIn_wide (n := 6)).1 ?_
  refine callsIn_of_wp_marks Tryd.func5 rfl trivial ?_ rfl
  simp only [Tryd.ntmps5, List.size_toArray, List.length_cons, List.length_nil, Nat.reduceAdd, Nat.reduceSub, Array.replicate_succ, Array.replicate_zero, List.push_toArray, List.append_toArray, List.nil_append, List.cons_append]
  gi_wp2_with (first
    | (refine ⟨trivial, ?_⟩; gi_at_call 10; rw [HW0.out, HB0.out]; refine (callsIn_wide.2 (alive10_any _ K0.out)).mono ?_; rintro e w1 ⟨rfl, b1⟩; have XL1 := Lib.hid (Boxed.kept XL.out (grown_none b1) (by simp)); have XS1 := Lib.hid (Boxed.kept XS.out (grown_none b1) (by simp)); have XR1 := Lib.hid (Boxed.kept XR.out (grown_none b1) (by simp)); have cL := XL1.out.cell; have U1 := Lib.hid (U0.out.below b1); have K1 : Hid (Okw w1) := Lib.hid (K0.out.below b1); have B1 := Lib.hid (B0.out.trans (b1.mono B0.out.size)); clear b1)
    | (refine ⟨trivial, ?_⟩; gi_at_call 29; refine (callsIn_wide.2 (N1.out _ U1.out)).mono ?_; rintro e w2 ⟨va, rfl, ra, b2⟩; obtain ⟨Aa, ka, ea2⟩ := ra.slice; rw [HNX.out] at ea2; subst ea2; have XL2 := Lib.hid (Boxed.kept XL1.out (grown_none b2) (by simp)); have XS2 := Lib.hid (Boxed.kept XS1.out (grown_none b2) (by simp)); have XR2 := Lib.hid (Boxed.kept XR1.out (grown_none b2) (by simp)); have K2 : Hid (Okw w2) := Lib.hid (K1.out.below b2); have B2 := Lib.hid (B1.out.trans (b2.mono B1.out.size)); have R2 := Lib.hid ra; clear b2 ra cL; have cL := XL2.out.cell; have fL := XL2.out.frozen)
    | (refine ⟨trivial, ?_⟩; gi_at_call 11; have XL3 := Lib.hid (XL2.out.set (.slice Aa nx ka)); have XS3 := Lib.hid (XS2.out.other (show b0 + 1 ≠ b0 by omega) (.slice Aa nx ka)); have XR3 := Lib.hid (XR2.out.other (show b0 + 1 + 1 ≠ b0 by omega) (.slice Aa nx ka)); have R3 := Lib.hid (runs_box (v' := .slice Aa nx ka) XL2.out R2.out); have hb3 := B2.out.setCell (p := ⟨b0, 0, none⟩) (by rw [HB0.out]; exact Nat.le_refl _) (.slice Aa nx ka); obtain ⟨w3, hw3⟩ : ∃ z, w2.setCell ⟨b0, 0, none⟩ (.slice Aa nx ka) = z := ⟨_, rfl⟩; rw [hw3] at XL3 XS3 XR3 R3 hb3 ⊢; have K3 : Hid (Okw w3) := Lib.hid (h.below hb3); have B3 := Lib.hid hb3; clear hb3 hw3 cL fL; refine (callsIn_wide.2 (G1.out _ _ R3.out)).mono ?_; rintro e w4 ⟨rfl, b4⟩; have XL4 := Lib.hid (Boxed.kept XL3.out (grown_none b4) (by simp)); have XS4 := Lib.hid (Boxed.kept XS3.out (grown_none b4) (by simp)); have XR4 := Lib.hid (Boxed.kept XR3.out (grown_none b4) (by simp)); have K4 : Hid (Okw w4) := Lib.hid (K3.out.below b4); have R4 := Lib.hid (R3.out.below b4); have B4 := Lib.hid (B3.out.trans (b4.mono B3.out.size)); clear b4; have cL := XL4.out.cell; have cR := XR4.out.cell; have fR := XR4.out.frozen; have cS := XS4.out.cell)
    | (refine ⟨trivial, ?_⟩; gi_at_call 12; refine (callsIn_wide.2 (CN.out _ _ _ K4.out R4.out)).mono ?_; rintro e w5 ⟨d, rfl, hd, b5⟩; have XL5 := Lib.hid (Boxed.kept XL4.out (grown_none b5) (by simp)); have XS5 := Lib.hid (Boxed.kept XS4.out (grown_none b5) (by simp)); have XR5 := Lib.hid (Boxed.kept XR4.out (grown_none b5) (by simp)); have K5 : Hid (Okw w5) := Lib.hid (K4.out.below b5); have R5 := Lib.hid (R4.out.below b5); have B5 := Lib.hid (B4.out.trans (b5.mono B4.out.size)); have HD5 := Lib.hid hd; clear b5 hd cL cR fR cS)
    | fail)
  -- the loop
  refine wpIn_loop (fun a' w' => ∃ (i : Nat) (Ds : List Nat) (u8 u9 u10 u33 u34 u35 u36 u37 u38 u39 u40 u41 u42 u43 u44 u45 u46 u47 u48 u49 u50 u51 u52 u53 u54 u55 u56 u57 u58 u59 u60 u61 u62 u63 u64 u65 u66 u67 u68 u69 u70 u71 u72 : Value), (i ≤ 2 ∧ Hid (Below w5.heap.size w5 w') ∧ Hid (ZMarks w5.heap.size w' Ds)) ∧ a' = { tmps := #[.slice Au nl cu, .int .u8 (st : Int), .pointer (some ⟨b0, 0, none⟩), .pointer (some ⟨b0 + 1, 0, none⟩), .pointer (some ⟨b0 + 1 + 1, 0, none⟩), .int .i64 0, .pointer (some ⟨d, 0, none⟩), .int .i64 0, u8, u9, u10, undef, .bool true, .bool false, .tuple #[.slice Aa nx ka, .int .i64 0], .slice Au nl cu, .tuple #[.slice Aa nx ka, .int .i64 0], .slice Aa nx ka, .int .i64 0, .slice Aa nx ka, .bool false, .bool false, .int .i64 0, .bool false, .bool false, .tuple #[.pointer (some ⟨d, 0, none⟩), .int .i64 0], .slice Aa nx ka, .tuple #[.pointer (some ⟨d, 0, none⟩), .int .i64 0], .pointer (some ⟨d, 0, none⟩), .int .i64 0, .int .i64 0, .bool false, .int .i64 (i : Int), u33, u34, u35, u36, u37, u38, u39, u40, u41, u42, u43, u44, u45, u46, u47, u48, u49, u50, u51, u52, u53, u54, u55, u56, u57, u58, u59, u60, u61, u62, u63, u64, u65, u66, u67, u68, u69, u70, u71, u72, undef, undef, undef, undef], defers := Ds.map zkD })
    (fun a' w' => 2 - (intOf (a'.tmps.getD 32 undef)).toNat) ?_ ?_
  · exact ⟨0, [], _, _, _, _, _, _, _, _, _, _, _, _, _, _, _, _, _, _, _, _, _, _, _, _, _, _, _, _, _, _, _, _, _, _, _, _, _, _, _, _, _, _, _, ⟨by omega, Lib.hid (Below.refl _ _), Lib.hid ⟨List.nodup_nil, fun D hD => by cases hD⟩⟩, rfl⟩
  rintro a' wr ⟨i, Ds, h⟩
  obtain ⟨u8, h⟩ := h
  obtain ⟨u9, h⟩ := h
  obtain ⟨u10, h⟩ := h
  obtain ⟨u33, h⟩ := h
  obtain ⟨u34, h⟩ := h
  obtain ⟨u35, h⟩ := h
  obtain ⟨u36, h⟩ := h
  obtain ⟨u37, h⟩ := h
  obtain ⟨u38, h⟩ := h
  obtain ⟨u39, h⟩ := h
  obtain ⟨u40, h⟩ := h
  obtain ⟨u41, h⟩ := h
  obtain ⟨u42, h⟩ := h
  obtain ⟨u43, h⟩ := h
  obtain ⟨u44, h⟩ := h
  obtain ⟨u45, h⟩ := h
  obtain ⟨u46, h⟩ := h
  obtain ⟨u47, h⟩ := h
  obtain ⟨u48, h⟩ := h
  obtain ⟨u49, h⟩ := h
  obtain ⟨u50, h⟩ := h
  obtain ⟨u51, h⟩ := h
  obtain ⟨u52, h⟩ := h
  obtain ⟨u53, h⟩ := h
  obtain ⟨u54, h⟩ := h
  obtain ⟨u55, h⟩ := h
  obtain ⟨u56, h⟩ := h
  obtain ⟨u57, h⟩ := h
  obtain ⟨u58, h⟩ := h
  obtain ⟨u59, h⟩ := h
  obtain ⟨u60, h⟩ := h
  obtain ⟨u61, h⟩ := h
  obtain ⟨u62, h⟩ := h
  obtain ⟨u63, h⟩ := h
  obtain ⟨u64, h⟩ := h
  obtain ⟨u65, h⟩ := h
  obtain ⟨u66, h⟩ := h
  obtain ⟨u67, h⟩ := h
  obtain ⟨u68, h⟩ := h
  obtain ⟨u69, h⟩ := h
  obtain ⟨u70, h⟩ := h
  obtain ⟨u71, h⟩ := h
  obtain ⟨u72, h⟩ := h
  obtain ⟨⟨hi2, HB, HM⟩, rfl⟩ := h
  by_cases hi : i < 2
  · have i1 : (i : Int) < 2 := by omega
    have HD := Lib.hid (HD5.out.below HB.out)
    obtain ⟨B, hBq⟩ : ∃ z, wr.heap.size = z := ⟨_, rfl⟩
    have bN := Boxed.new wr 3 (.int .i64 0)
    have bD := Boxed.new (wr.alloc (.cells #[.int .i64 0] 3)) 25 (.pointer (some ⟨d, 0, none⟩))
    have hB2 : Below wr.heap.size wr ((wr.alloc (.cells #[.int .i64 0] 3)).alloc (.cells #[.pointer (some ⟨d, 0, none⟩)] 25)) := ((Below.refl _ wr).alloc (Nat.le_refl _) _).alloc (by simp) _
    have bN2 := bN.alloc (.cells #[.pointer (some ⟨d, 0, none⟩)] 25)
    obtain ⟨w1r, hw1r⟩ : ∃ z, wr.alloc (.cells #[.int .i64 0] 3) = z := ⟨_, rfl⟩
    have hsz1 : w1r.heap.size = B + 1 := by rw [← hw1r]; simp [hBq]
    rw [hw1r] at bD hB2 bN2
    obtain ⟨w2r, hw2r⟩ : ∃ z, w1r.alloc (.cells #[.pointer (some ⟨d, 0, none⟩)] 25) = z := ⟨_, rfl⟩
    have hsz2 : w2r.heap.size = B + 2 := by rw [← hw2r]; simp [hsz1]
    rw [hw2r] at bD hB2 bN2
    rw [hBq] at hB2 bN2
    rw [hsz1] at bD
    have HW1R := Lib.hid hw1r; have HW2R := Lib.hid hw2r; have BN2 := Lib.hid bN2; have BD := Lib.hid bD; have HB2 := Lib.hid hB2; have HBQ := Lib.hid hBq; have HSZ1 := Lib.hid hsz1; have HSZ2 := Lib.hid hsz2
    have eqa := all_made (some ⟨d, 0, none⟩) w1r
    rw [hsz1, hw2r] at eqa
    have CA := Lib.hid eqa
    clear bN bD hB2 bN2 hw1r hw2r hBq hsz1 hsz2 eqa
    gi_wp2_with (first
      | (refine ⟨trivial, ?_⟩; gi_at_call 30; rw [HW1R.out]; refine (callsIn_wide.2 CA.out).mono ?_; rintro e w' ⟨rfl, e1⟩; obtain rfl := e1.symm)
      | fail)
    rw [HBQ.out]
    have k1 : B ≤ w2r.heap.size := by have := HSZ2.out; omega
    have k2 : B + 1 < w2r.heap.size := by have := HSZ2.out; omega
    have k3 : B < w2r.heap.size := by omega
    have hbl : OwnFrom w2r.heap.size (fun (_ : List Nat) W => Below B wr W) := ownFrom_below (by rw [HBQ.out]; exact Nat.le_refl _) k1
    have hbo : OwnFrom w2r.heap.size (fun (pre : List Nat) W => Boxed W B 3 (.int .i64 (pre.length : Int))) := Own.from (boxed_own B 3 (fun pre : List Nat => Value.int .i64 (pre.length : Int))) _
    have XLr := Lib.hid (Boxed.kept XL5.out (grown_none HB.out) (by simp)); have XSr := Lib.hid (Boxed.kept XS5.out (grown_none HB.out) (by simp)); have XRr := Lib.hid (Boxed.kept XR5.out (grown_none HB.out) (by simp))
    have l0 : b0 < B := by rw [← HBQ.out]; exact XLr.out.lt
    have l1 : b0 + 1 < B := by rw [← HBQ.out]; exact XSr.out.lt
    have l2 : b0 + 1 + 1 < B := by rw [← HBQ.out]; exact XRr.out.lt
    have Rr := Lib.hid (R5.out.below HB.out)
    have l5 : w5.heap.size ≤ B := by rw [← HBQ.out]; exact HB.out.size
    have hdl : ∀ D ∈ Ds, D < B := fun D hD => by rw [← HBQ.out]; exact (Array.getElem?_eq_some_iff.1 (HM.out.at_ D hD).2).1
    refine wpIn_rangeFunc_ownH rfl (by decide) (gf := 51) (lb := #[.pointer (some ⟨B + 1, 0, none⟩)]) rfl trivial (enters_of Tryd.func51 (by kernel_rfl) rfl)
      (all_stops 5 (by decide) (B + 1) B d nx X HNX.out HNN.out Q HQ.out wr HBQ.out HD.out w2r k1 HB2.out k2 BD.out.cell) Keep1.trans (keep1_b k1 k2) (Below.refl _ _) (fun _ => rfl)
      (fun (pre : List Nat) W => (Boxed W B 3 (.int .i64 (pre.length : Int)) ∧ Below B wr W) ∧ B + 2 ≤ W.heap.size)
      (fun cc (pre : List Nat) W => (cc = .exit 2 ∧ pre.length = st ∧ Boxed W B 3 (.int .i64 (pre.length : Int)) ∧ Below B wr W) ∨ (cc = .ret ∧ ∃ z x, pre = z ++ [x] ∧ x ≠ z.length))
      (OwnFrom.and (OwnFrom.and hbo hbl) (fun _ _ _ _ h hg _ => Nat.le_trans h hg.size))
      (fun cc pre W W' row hx hg hr => by
        rcases hx with ⟨h1, h2, h3, h4⟩ | h
        · exact .inl ⟨h1, h2, hbo pre W W' row h3 hg hr, hbl pre W W' row h4 hg hr⟩
        · exact .inr h)
      ⟨⟨BN2.out, HB2.out⟩, by have := HSZ2.out; omega⟩
      (fun x a' W => a' = { tmps := #[.slice Au nl cu, .int .u8 (st : Int), .pointer (some ⟨b0, 0, none⟩), .pointer (some ⟨b0 + 1, 0, none⟩), .pointer (some ⟨b0 + 1 + 1, 0, none⟩), .int .i64 0, .pointer (some ⟨d, 0, none⟩), .int .i64 0, .pointer (some ⟨B, 0, none⟩), .int .i64 (x : Int), .string (wget X x).1, undef, .bool true, .bool false, .tuple #[.slice Aa nx ka, .int .i64 0], .slice Au nl cu, .tuple #[.slice Aa nx ka, .int .i64 0], .slice Aa nx ka, .int .i64 0, .slice Aa nx ka, .bool false, .bool false, .int .i64 0, .bool false, .bool false, .tuple #[.pointer (some ⟨d, 0, none⟩), .int .i64 0], .slice Aa nx ka, .tuple #[.pointer (some ⟨d, 0, none⟩), .int .i64 0], .pointer (some ⟨d, 0, none⟩), .int .i64 0, .int .i64 0, .bool false, .int .i64 (i : Int), .bool true, .pointer (some ⟨d, 0, none⟩), .func (.func 51) #[] #[.pointer (some ⟨B + 1, 0, none⟩)], .int .i64 (x : Int), .string (wget X x).1, u38, u39, u40, u41, u42, u43, u44, u45, u46, u47, u48, u49, u50, u51, u52, u53, u54, u55, u56, u57, u58, u59, u60, u61, u62, u63, u64, u65, u66, u67, u68, u69, u70, u71, u72, undef, undef, undef, undef], defers := [] })
      (fun x a' _ W W' row h hg hr => h) ?assign ?body ?done ?stop
    case assign =>
      rintro lp pre x W K hI hK
      simp only [allEnc]
      gi_wp2
      exact hK _ _ (KeepsFrom.refl _ _) (Keep1.refl _ _ _) hI rfl
    case body =>
      rintro lp pre x a' W hl hr ⟨⟨hE, hBw⟩, hsz⟩ rfl hlt
      obtain ⟨m, hm⟩ : ∃ z, pre.length = z := ⟨_, rfl⟩
      rw [hm] at hE hlt
      have cE := hE.cell
      have fE := hE.frozen
      have cL := (hBw.cell (p := ⟨b0, 0, none⟩) l0).trans XLr.out.cell
      have cS := (hBw.cell (p := ⟨b0 + 1, 0, none⟩) l1).trans XSr.out.cell
      have HE := Lib.hid hE; have HBw := Lib.hid hBw; have HMm := Lib.hid hm
      by_cases hx : x = m
      · subst hx
        obtain ⟨⟨p1, p2⟩, hp⟩ : ∃ p, X[x]? = some p := ⟨_, List.getElem?_eq_getElem (by rw [HNX.out]; exact hlt)⟩
        obtain ⟨b, o, rfl, _, hc⟩ := (Rr.out.below (HBQ.out.symm ▸ HBw.out)).cells HNX.out (by omega)
        obtain ⟨g0, g1⟩ := wrd_cells hc hp
        simp only at g0 g1
        have hwg := wget_at hp
        simp only [hwg]
        have j1 : (x : Int) < (nx : Int) := by omega
        have j2 : ¬ (nx : Int) ≤ (x : Int) := by omega
        have j2d : decide ((nx : Int) ≤ (x : Int)) = false := decide_eq_false j2
        have hwst := z_wrap_small st (by omega)
        obtain ⟨v, hv⟩ : ∃ v, IntKind.i64.wrap ((x : Int) + 1) = v := ⟨_, rfl⟩
        have hv2 : v = ((x + 1 : Nat) : Int) := by rw [← hv, IntKind.wrap_i64]; omega
        have hv3 : (x : Int) + 1 = v := by rw [hv2]; rfl
        have HV := Lib.hid hv2
        have n2 : b0 + 1 ≠ B := by omega
        have n3 : b0 ≠ B := by omega
        have hbx : Boxed (W.setCell ⟨B, 0, none⟩ (.int .i64 v)) B 3 (.int .i64 (((pre ++ [x]).length : Nat) : Int)) := by
          rw [show (((pre ++ [x]).length : Nat) : Int) = v by rw [hv2, List.length_append, hm]; rfl]
          exact hE.set (.int .i64 v)
        have hpl : (pre ++ [x]).length = x + 1 := by rw [List.length_append, hm]; rfl
        have HPL := Lib.hid hpl
        have HSZ := Lib.hid (show B + 2 ≤ (W.setCell ⟨B, 0, none⟩ (.int .i64 v)).heap.size by rw [World.size_setCell]; exact hsz)
        clear hpl
        have hbb := hBw.setCell (p := ⟨B, 0, none⟩) (Nat.le_refl _) (.int .i64 v)
        have hkf : KeepsFrom w2r.heap.size W (W.setCell ⟨B, 0, none⟩ (.int .i64 v)) := (KeepsOthers.setCell _ _ _).from _
        have hk1 : Keep1 B (B + 1) W (W.setCell ⟨B, 0, none⟩ (.int .i64 v)) := ⟨(Below.refl _ _).setCell (p := ⟨B, 0, none⟩) (Nat.le_refl _) _, Below.heap_setCell _ _ _ _ (by simp)⟩
        have HBX := Lib.hid hbx; have HBB := Lib.hid hbb; have HKF := Lib.hid hkf; have HK1 := Lib.hid hk1
        clear hbx hbb hkf hk1 hc hp hwg hE hBw hm hv2 hl hr
        by_cases he : v = (st : Int)
        · have he1 : (v == (st : Int)) = true := by simpa using he
          clear he
          have HE1 := Lib.hid (show x + 1 = st by have := HV.out; have h3 : v = (st : Int) := by simpa using he1
                                                  omega)
          gi_wp2
          exact ⟨HKF.out, .inl ⟨rfl, by rw [HPL.out]; exact HE1.out, HBX.out, HBB.out⟩⟩
        · have he1 : (v == (st : Int)) = false := by simpa using he
          gi_wp2
          exact ⟨HKF.out, HK1.out, ⟨⟨HBX.out, HBB.out⟩, HSZ.out⟩⟩
      · have hx1 : ((x : Int) == (m : Int)) = false := by simpa using (by omega : ¬ (x : Int) = (m : Int))
        have hx2 : ((x : Int) != (m : Int)) = true := by simpa using (by omega : ¬ (x : Int) = (m : Int))
        have cR := (hBw.cell (p := ⟨b0 + 1 + 1, 0, none⟩) l2).trans XRr.out.cell
        have fR : W.frozen? ⟨b0 + 1 + 1, 0, none⟩ = false := by
          have h1 := XRr.out
          have h2 : Boxed W (b0 + 1 + 1) 4 (.bool false) := (hBw.block _ l2).trans h1
          exact h2.frozen
        gi_wp2
        exact ⟨(KeepsOthers.setCell _ _ _).from _, .inr ⟨rfl, pre, x, rfl, by rw [HMm.out]; exact hx⟩⟩
    case done =>
      rintro D ys W hD rfl ⟨⟨hE, hBw⟩, hsz⟩ hK
      rw [List.length_range] at hE
      have cE := hE.cell
      have cL := (hBw.cell (p := ⟨b0, 0, none⟩) l0).trans XLr.out.cell
      have cS := (hBw.cell (p := ⟨b0 + 1, 0, none⟩) l1).trans XSr.out.cell
      have HB3 := Lib.hid (HB.out.trans (hBw.mono l5))
      have HM3 : Hid (ZMarks w5.heap.size W (D :: Ds)) := Lib.hid ⟨List.nodup_cons.2 ⟨fun hm => by have := hdl D hm; omega, HM.out.nd⟩, fun D' hD' => by
        rcases List.mem_cons.1 hD' with rfl | hD'
        · exact ⟨by omega, hK⟩
        · exact ((HM.out.below (HBQ.out.symm ▸ hBw)).at_ D' hD')⟩
      clear hE hBw hK
      change Exit.inBlock 2 _ _ _ _
      gi_wp2
      exact ⟨⟨i + 1, D :: Ds, _, _, _, _, _, _, _, _, _, _, _, _, _, _, _, _, _, _, _, _, _, _, _, _, _, _, _, _, _, _, _, _, _, _, _, _, _, _, _, _, _, _, _, ⟨by omega, HB3, HM3⟩, rfl⟩, by simp [intOf]; omega⟩
    case stop =>
      rintro D cc pre W hD hp (⟨rfl, hst2, hE, hBw⟩ | ⟨rfl, z, x, rfl, hne⟩) hK
      · rw [hst2] at hE
        have cE := hE.cell
        have cL := (hBw.cell (p := ⟨b0, 0, none⟩) l0).trans XLr.out.cell
        have cS := (hBw.cell (p := ⟨b0 + 1, 0, none⟩) l1).trans XSr.out.cell
        have HB3 := Lib.hid (HB.out.trans (hBw.mono l5))
        have HM3 : Hid (ZMarks w5.heap.size W (D :: Ds)) := Lib.hid ⟨List.nodup_cons.2 ⟨fun hm => by have := hdl D hm; omega, HM.out.nd⟩, fun D' hD' => by
          rcases List.mem_cons.1 hD' with rfl | hD'
          · exact ⟨by omega, hK⟩
          · exact ((HM.out.below (HBQ.out.symm ▸ hBw)).at_ D' hD')⟩
        have hwst := z_wrap_small st (by omega)
        clear hE hBw hK hp
        by_cases hq : st = nx
        · subst hq
          gi_wp2
          exact ⟨⟨i + 1, D :: Ds, _, _, _, _, _, _, _, _, _, _, _, _, _, _, _, _, _, _, _, _, _, _, _, _, _, _, _, _, _, _, _, _, _, _, _, _, _, _, _, _, _, _, _, ⟨by omega, HB3, HM3⟩, rfl⟩, by simp [intOf]; omega⟩
        · have hq1 : ((st : Int) == (nx : Int)) = false := by simpa using (by omega : ¬ (st : Int) = (nx : Int))
          have hq2 : ((st : Int) != (nx : Int)) = true := by simpa using (by omega : ¬ (st : Int) = (nx : Int))
          gi_wp2
          exact ⟨⟨i + 1, D :: Ds, _, _, _, _, _, _, _, _, _, _, _, _, _, _, _, _, _, _, _, _, _, _, _, _, _, _, _, _, _, _, _, _, _, _, _, _, _, _, _, _, _, _, _, ⟨by omega, HB3, HM3⟩, rfl⟩, by simp [intOf]; omega⟩
      · obtain ⟨_, h2, _⟩ := all_snoc (m := 0) (N := nx) (by rw [Nat.sub_zero, ← List.range_eq_range']; exact hp)
        exact absurd (by omega) hne
  · obtain rfl : i = 2 := by omega
    obtain ⟨B, hBq⟩ : ∃ z, wr.heap.size = z := ⟨_, rfl⟩
    have bD := Boxed.new wr 25 (.pointer none)
    have hB2 := bel_one wr (.cells #[.pointer none] 25)
    have eqa := all_made none wr
    obtain ⟨w2r, hw2r⟩ : ∃ z, wr.alloc (.cells #[.pointer none] 25) = z := ⟨_, rfl⟩
    have hsz2 : w2r.heap.size = B + 1 := by rw [← hw2r]; simp [hBq]
    rw [hw2r] at bD hB2 eqa
    rw [hBq] at bD hB2 eqa
    have CA := Lib.hid eqa; have BD := Lib.hid bD; have HB2 := Lib.hid hB2; have HBQ := Lib.hid hBq; have HSZ2 := Lib.hid hsz2
    clear bD hB2 hw2r hBq hsz2 eqa
    gi_wp2_with (first
      | (refine ⟨trivial, ?_⟩; gi_at_call 30; refine (callsIn_wide.2 CA.out).mono ?_; rintro e w' ⟨rfl, e1⟩; obtain rfl := e1.symm)
      | fail)
    have k1 : B ≤ w2r.heap.size := by have := HSZ2.out; omega
    have k2 : B < w2r.heap.size := by have := HSZ2.out; omega
    have XRr := Lib.hid (Boxed.kept XR5.out (grown_none HB.out) (by simp))
    have l2 : b0 + 1 + 1 < B := by rw [← HBQ.out]; exact XRr.out.lt
    have l5 : w5.heap.size ≤ B := by rw [← HBQ.out]; exact HB.out.size
    have hdl : ∀ D ∈ Ds, D < B := fun D hD => by rw [← HBQ.out]; exact (Array.getElem?_eq_some_iff.1 (HM.out.at_ D hD).2).1
    refine wpIn_rangeFunc_ownH rfl (by decide) (gf := 51) (lb := #[.pointer (some ⟨B, 0, none⟩)]) rfl trivial (enters_of Tryd.func51 (by kernel_rfl) rfl)
      (all_none_stops 5 (by decide) B B X w2r k2 BD.out.cell) Keep1.trans (keep1_b k1 k2) (Below.refl _ _) (fun _ => rfl)
      (fun (pre : List Nat) W => Below B wr W ∧ B + 1 ≤ W.heap.size)
      (fun cc (pre : List Nat) W => False)
      (OwnFrom.and (ownFrom_below (by rw [HBQ.out]; exact Nat.le_refl _) k1) (fun _ _ _ _ h hg _ => Nat.le_trans h hg.size))
      (fun cc pre W W' row hx hg hr => hx)
      ⟨HB2.out, by have := HSZ2.out; omega⟩
      (fun x a' W => True)
      (fun x a' _ W W' row h hg hr => h) ?assign ?body ?done ?stop
    case assign =>
      rintro lp pre x W K hI hK
      simp only [allEnc]
      gi_wp2
      exact hK _ _ (KeepsFrom.refl _ _) (Keep1.refl _ _ _) hI trivial
    case body =>
      rintro lp pre x a' W hl hr hI hA hlt
      omega
    case done =>
      rintro D ys W hD rfl ⟨hBw, hsz⟩ hK
      have hxw : Boxed W (b0 + 1 + 1) 4 (.bool false) := (hBw.block _ l2).trans XRr.out
      have cR := hxw.cell
      have fR := hxw.frozen
      have hxs := hxw.set (.bool true)
      have HM3 : Hid (ZMarks w5.heap.size (W.setCell ⟨b0 + 1 + 1, 0, none⟩ (.bool true)) (D :: Ds)) := Lib.hid (ZMarks.keeps ⟨List.nodup_cons.2 ⟨fun hm => by have := hdl D hm; omega, HM.out.nd⟩, fun D' hD' => by
        rcases List.mem_cons.1 hD' with rfl | hD'
        · exact ⟨by omega, hK⟩
        · exact ((HM.out.below (HBQ.out.symm ▸ hBw)).at_ D' hD')⟩ (KeepsOthers.setCell _ _ _))
      have HBA := Lib.hid ((B5.out.trans ((HB.out.trans (hBw.mono l5)).mono B5.out.size)).setCell (p := ⟨b0 + 1 + 1, 0, none⟩) (by show w.heap.size ≤ b0 + 1 + 1; have := HB0.out; omega) (.bool true))
      have HXS := Lib.hid hxs
      have l7 : w5.heap.size ≤ (W.setCell ⟨b0 + 1 + 1, 0, none⟩ (.bool true)).heap.size := by rw [World.size_setCell]; omega
      clear hxw hxs hBw hK
      gi_wp2
      refine z_leaves_marks (n0 := w5.heap.size) (D :: Ds) _ l7 HM3.out (fun w' hb' hk' => ?_)
      have hx' : Boxed w' (b0 + 1 + 1) 4 (.bool true) := hk' _ _ HXS.out rfl
      exact all_leaves rfl hx'.cell (HBA.out.trans (hb'.mono B5.out.size))
    case stop =>
      rintro D cc pre W hD hp h hK
      exact h.elim
end Go.Proofs.YtnjhbblhlgpgdaaDoor
