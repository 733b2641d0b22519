/- errataref10.Edges, Next; errataref11.State: the document's edges, where a rune leads, where a text's runes lead. -/
import Derived.Test.YtljaibhhkjapmaaDoorKNew
import Derived.Test.YtljaibhhkjapmaaDoorPk20
import Derived.Test.YtljaibhhkjapmaaDoorPk21
namespace Go.Proofs.YtljaibhhkjapmaaDoor
open Go.RowKit Go.Shelf
attribute [local go_sem] Oper.semAt_some
set_option linter.unusedSimpArgs false
set_option linter.unusedVariables false

theorem outE_len (Q : List Rst) (x : Rst) : (outE Q x).length = (edE Q x).length := List.length_map _
theorem edK_step {Q : List Rst} {k : Nat} {x : Rst} (h : Q[k]? = some x) : (edK Q (k + 1)).length = (edK Q k).length + (stF Q x).2.2.length := by
  rw [edK_succ h, List.length_append, stF_out, outE_len]
theorem edK_mono (Q : List Rst) (k : Nat) : (edK Q k).length ≤ (edK Q Q.length).length := by
  have e : Q.flatMap (edE Q) = (Q.take k).flatMap (edE Q) ++ (Q.drop k).flatMap (edE Q) := by rw [← List.flatMap_append, List.take_append_drop]
  unfold edK
  rw [List.take_length, e, List.length_append]
  omega
/-- A row of states is one of such cells. -/
theorem StRow.cap {w : World} {base : Nat} {v : Value} {S : List (StD Int)} {T : List StV} {R : Nat → Prop} (h : StRow w base v S T R) : S.length ≤ 9223372036854775807 := by
  rcases h.own.2 with ⟨_, h0⟩ | ⟨g', cap', cur, e1, hb, hg, h1, h2, h3, h4⟩
  · omega
  · unfold maxLen at h2; omega
theorem z_wrap_ee (a b : Nat) (h : a + b ≤ 6000000) : IntKind.i64.wrap ((a : Int) + (b : Int)) = ((a + b : Nat) : Int) := by rw [IntKind.wrap_i64]; omega
set_option maxRecDepth 100000 in
set_option maxHeartbeats 8000000 in
theorem redges_any (base : Nat) (A : Option Addr) (c : Nat) (W : Rst) (T : List StV) (R : Nat → Prop) (w : World) (M : Nat) (hM : (tldS W).length = M) (h : StRow w base (.slice A M c) (tldS W) T R) (hb : (edK (staQ W) (staQ W).length).length ≤ 6000000) :
    Calls Tryd.prog 17 #[.slice A M c] w fun e w' => e = .returned (.int .i64 ((edK (staQ W) (staQ W).length).length : Int)) ∧ Below w.heap.size w w' := by
  have hcap := h.cap
  rw [hM] at hcap
  obtain ⟨fin, hfin⟩ : ∃ z, (edK (staQ W) (staQ W).length).length = z := ⟨_, rfl⟩
  have hQM : (staQ W).length = M := by rw [← hM, tldS_len]
  have hmono : ∀ k, (edK (staQ W) k).length ≤ fin := fun k => by rw [← hfin]; exact edK_mono _ k
  have hend : (edK (staQ W) M).length = fin := by rw [← hQM]; exact hfin
  rw [hfin] at hb ⊢
  have HS := Lib.hid h; have HM := Lib.hid hM; have HMO := Lib.hid hmono; have HEND := Lib.hid hend; have HQM := Lib.hid hQM; have HBB := Lib.hid hb
  clear h hM hmono hend hfin hQM hb
  go_enter Tryd.func17, Tryd.ntmps17
  go_wp2
  go_loopw [3, 8] (fun s3 s8 wr => ∃ k m : Nat, s3 = .int .i64 (m : Int) ∧ s8 = .int .i64 (k : Int) ∧ k ≤ M ∧ Hid (m = (edK (staQ W) k).length) ∧ Hid (Below w.heap.size w wr)) (fun _ s8 _ => M - (RowKit.intOf s8).toNat)
  case atStart => exact ⟨0, 0, rfl, rfl, Nat.zero_le _, Lib.hid (by rw [edK_zero]; rfl), Lib.hid (Below.refl _ _)⟩
  case round =>
    obtain ⟨k, m, rfl, rfl, hkn, HMK, HB⟩ := hrel
    by_cases hk : k < M
    · have k1 : (k : Int) < (M : Int) := by omega
      obtain ⟨x, hx⟩ : ∃ x, (staQ W)[k]? = some x := ⟨_, List.getElem?_eq_getElem (by rw [HQM.out]; exact hk)⟩
      have hs := tldS_at hx
      have hstep := edK_step hx
      have hle := HMO.out (k + 1)
      rw [hstep, ← HMK.out] at hle
      rw [← HMK.out] at hstep
      obtain ⟨g, cap, t, ev, hbg, hlt, ht, hxx, g0, g1, g2⟩ := (HS.out.below HB.out).at_ HM.out hs
      cases ev
      obtain ⟨⟨x0, x1, x2⟩, tb, ⟨y0, y1, y2⟩⟩ := t
      obtain ⟨E, hE⟩ : ∃ z, (stF (staQ W) x).2.2 = z := ⟨_, rfl⟩
      have hxE : GRuns oeCell 2 wr (.slice y0 y1 y2) (stF (staQ W) x).2.2 := hxx.2.2.1
      rw [hE] at hxE hstep hle
      obtain ⟨A', c', e', _⟩ := id hxE
      cases e'
      obtain ⟨ne, hne⟩ : ∃ z, E.length = z := ⟨_, rfl⟩
      have hal := bel_one wr (.cells #[.slice x0 x1 x2, .bool tb, .slice y0 E.length y2] 37)
      have hbx := bx_new wr 37 #[.slice x0 x1 x2, .bool tb, .slice y0 E.length y2]
      change wr.cell? ⟨g, k * 3, none⟩ = some (.slice x0 x1 x2) at g0
      change wr.cell? ⟨g, k * 3 + 1, none⟩ = some (.bool tb) at g1
      change wr.cell? ⟨g, k * 3 + 2, none⟩ = some (.slice y0 E.length y2) at g2
      rw [hne] at hal hbx g2 hle hstep
      obtain ⟨W1, hW1⟩ : ∃ z, wr.alloc (.cells #[.slice x0 x1 x2, .bool tb, .slice y0 ne y2] 37) = z := ⟨_, rfl⟩
      obtain ⟨B, hB⟩ : ∃ z, wr.heap.size = z := ⟨_, rfl⟩
      rw [hW1] at hal hbx
      rw [hB] at hbx
      obtain ⟨c0, c1, c2⟩ := hbx.three
      have hbn := HB.out.trans (hal.mono HB.out.size)
      have wk := z_wrap_ee m ne (by have := HBB.out; omega)
      obtain ⟨m2, hm2⟩ : ∃ z, m + ne = z := ⟨_, rfl⟩
      rw [hm2] at wk hstep
      have HW1 := Lib.hid hW1; have HBL := Lib.hid hB; have HBN := Lib.hid hbn; have HST := Lib.hid hstep
      clear hx hs hstep hle ht hxx hE hxE hne hal hbx hW1 hB hbn hm2 hlt hbg
      go_wp2_with (first | (rw [HW1.out, HBL.out]))
      exact ⟨⟨k + 1, m2, rfl, by go_num, by omega, Lib.hid HST.out.symm, HBN⟩, by simp [RowKit.intOf]; omega⟩
    · obtain rfl : k = M := by omega
      have hm : m = fin := HMK.out.trans HEND.out
      subst hm
      go_wp2
      go_ret
      exact ⟨rfl, HB.out⟩
/-- Where a rune leads by some edges. -/
def nxtE (E : List OEd) (r : Int) : Nat × Bool := match E.find? (fun e => e.1 == r) with
  | some e => (e.2, true)
  | none => (0, false)
theorem nxtE_at {E : List OEd} {r : Int} {k : Nat} {y : Int × Nat} (hy : E[k]? = some y) (he : y.1 = r) (hn : ∀ j z, j < k → E[j]? = some z → z.1 ≠ r) : nxtE E r = (y.2, true) := by
  have h1 : E.find? (fun e => e.1 == r) = some y := by
    have hk := (List.getElem?_eq_some_iff.1 hy).1
    have e : E = E.take k ++ y :: E.drop (k + 1) := by
      conv => lhs; rw [← List.take_append_drop k E]
      rw [List.drop_eq_getElem_cons hk, (List.getElem_eq_iff _).2 hy]
    have h2 : (E.take k).find? (fun e => e.1 == r) = none := List.find?_eq_none.2 (fun z hz => by
      obtain ⟨j, hj⟩ := List.mem_iff_getElem?.1 hz
      rw [List.getElem?_take] at hj
      split at hj
      · rename_i h3; simpa using hn j z h3 hj
      · cases hj)
    rw [e, List.find?_append, h2, Option.none_or, List.find?_cons_of_pos (by simpa using he)]
  unfold nxtE
  rw [h1]
theorem nxtE_none {E : List OEd} {r : Int} (hn : ∀ j z, j < E.length → E[j]? = some z → z.1 ≠ r) : nxtE E r = (0, false) := by
  have h1 : E.find? (fun e => e.1 == r) = none := List.find?_eq_none.2 (fun z hz => by
    obtain ⟨j, hj⟩ := List.mem_iff_getElem?.1 hz
    simpa using hn j z (List.getElem?_eq_some_iff.1 hj).1 hj)
  unfold nxtE
  rw [h1]
/-- The document's own: where a rune leads from a state. -/
theorem nxtE_stF (Q : List Rst) (x : Rst) (r : Int) : nxtE (stF Q x).2.2 r = if r ∈ hdsR x then (Q.idxOf (behR x r), true) else (0, false) := by
  have key : ∀ l : List Int, nxtE (l.map (fun r => (r, Q.idxOf (behR x r)))) r = if r ∈ l then (Q.idxOf (behR x r), true) else (0, false) := by
    intro l
    induction l with
    | nil => rfl
    | cons a l ih =>
      by_cases h : a = r
      · subst h
        rw [if_pos (by simp)]
        unfold nxtE
        rw [List.map_cons, List.find?_cons_of_pos (by simp)]
      · have h1 : nxtE ((a :: l).map (fun r => (r, Q.idxOf (behR x r)))) r = nxtE (l.map (fun r => (r, Q.idxOf (behR x r)))) r := by
          unfold nxtE
          rw [List.map_cons, List.find?_cons_of_neg (by simpa using h)]
        rw [h1, ih]
        by_cases h2 : r ∈ l
        · rw [if_pos h2, if_pos (by simp [h2])]
        · rw [if_neg h2, if_neg (by simp [h2, Ne.symm h])]
  exact key _
set_option maxRecDepth 100000 in
set_option maxHeartbeats 8000000 in
theorem rnext_any (x0 : Option Addr) (x1 x2 : Nat) (tb : Bool) (A : Option Addr) (n c : Nat) (E : List OEd) (r : Int) (w : World) (hn : E.length = n) (hE : GRuns oeCell 2 w (.slice A n c) E) :
    Calls Tryd.prog 24 #[.agg #[.slice x0 x1 x2, .bool tb, .slice A n c], .int .i32 r] w fun e w' => e = .returned (.tuple #[.int .i64 ((nxtE E r).1 : Int), .bool (nxtE E r).2]) ∧ Below w.heap.size w w' := by
  have hcap : n ≤ 9223372036854775807 := by
    obtain ⟨A', c', e, hc, hmx, _⟩ := id hE
    cases e
    have := hmx.1
    unfold maxLen at this
    omega
  have hyes := fun (k : Nat) (y : OEd) (hy : E[k]? = some y) (he : y.1 = r) (hno : ∀ j z, j < k → E[j]? = some z → z.1 ≠ r) => nxtE_at hy he hno
  have hnone := fun (hno : ∀ j z, j < E.length → E[j]? = some z → z.1 ≠ r) => nxtE_none hno
  obtain ⟨⟨o1, o2⟩, ho⟩ : ∃ z, nxtE E r = z := ⟨_, rfl⟩
  simp only [ho] at hyes hnone ⊢
  have hal := bel_one w (.cells #[.slice x0 x1 x2, .bool tb, .slice A n c] 37)
  have hbx := bx_new w 37 #[.slice x0 x1 x2, .bool tb, .slice A n c]
  obtain ⟨W0, hW0⟩ : ∃ z, w.alloc (.cells #[.slice x0 x1 x2, .bool tb, .slice A n c] 37) = z := ⟨_, rfl⟩
  obtain ⟨B0, hB0⟩ : ∃ z, w.heap.size = z := ⟨_, rfl⟩
  rw [hW0] at hal hbx
  rw [hB0] at hbx hal
  obtain ⟨c0, c1, c2⟩ := hbx.three
  have HE := Lib.hid (hE.below (hB0 ▸ hal)); have HN := Lib.hid hn; have HY := Lib.hid hyes; have HNO := Lib.hid hnone; have HW0 := Lib.hid hW0; have HB0 := Lib.hid hB0; have HAL := Lib.hid hal
  clear hE hn hyes hnone hW0 hB0 hal hbx ho
  go_enter Tryd.func24, Tryd.ntmps24
  go_wp2_with (first | (rw [HW0.out, HB0.out]))
  go_loopw [11] (fun s11 wr => ∃ k : Nat, s11 = .int .i64 (k : Int) ∧ k ≤ n ∧ Hid (∀ (j : Nat) (z : OEd), j < k → E[j]? = some z → z.1 ≠ r) ∧ Hid (Below W0.heap.size W0 wr)) (fun s11 _ => n - (RowKit.intOf s11).toNat)
  case atStart => exact ⟨0, rfl, Nat.zero_le _, Lib.hid (fun j z h => by omega), Lib.hid (Below.refl _ _)⟩
  case round =>
    obtain ⟨k, rfl, hkn, HC, HB⟩ := hrel
    have hfin : Below w.heap.size w wr := by rw [HB0.out]; exact HAL.out.trans (HB.out.mono (HB0.out ▸ HAL.out.size))
    have HF := Lib.hid hfin
    clear hfin
    by_cases hk : k < n
    · have k1 : (k : Int) < (n : Int) := by omega
      obtain ⟨⟨y1, y2⟩, hy⟩ : ∃ y, E[k]? = some y := ⟨_, List.getElem?_eq_getElem (by rw [HN.out]; exact hk)⟩
      obtain ⟨b, o, rfl, hlt, hc⟩ := (HE.out.below HB.out).cells HN.out (by omega)
      have g0 := hc k _ hy 0 _ rfl
      have g1 := hc k _ hy 1 _ rfl
      simp only [Nat.add_zero] at g0 g1
      have hal := bel_one wr (.cells #[.int .i32 y1, .int .i64 (y2 : Int)] 98)
      obtain ⟨d0, d1⟩ := cells2_new wr (.int .i32 y1) (.int .i64 (y2 : Int)) 98
      obtain ⟨W1, hW1⟩ : ∃ z, wr.alloc (.cells #[.int .i32 y1, .int .i64 (y2 : Int)] 98) = z := ⟨_, rfl⟩
      obtain ⟨B, hB⟩ : ∃ z, wr.heap.size = z := ⟨_, rfl⟩
      rw [hW1] at hal d0 d1
      rw [hB] at d0 d1
      have HBN := Lib.hid (HB.out.trans (hal.mono HB.out.size)); have HFN := Lib.hid (HF.out.trans (hal.mono HF.out.size))
      have HYY := Lib.hid hy; have HW1 := Lib.hid hW1; have HBL := Lib.hid hB
      clear hc hlt hal hW1 hB
      by_cases he : y1 = r
      · subst he
        have h9 := HY.out k _ HYY.out rfl HC.out
        have e1 : (y1 == y1) = true := beq_self_eq_true _
        obtain ⟨rfl, rfl⟩ : o1 = y2 ∧ o2 = true := by simpa using h9
        clear h9 hy
        go_wp2_with (first | (rw [HW1.out, HBL.out]))
        go_ret2
        exact ⟨rfl, HFN.out⟩
      · have e1 : (y1 == r) = false := by simpa using he
        have HHE := Lib.hid he
        clear he hy
        go_wp2_with (first | (rw [HW1.out, HBL.out]))
        exact ⟨⟨k + 1, by go_num, by omega, Lib.hid (fun j z hj hz => by
          by_cases h9 : j < k
          · exact HC.out j z h9 hz
          · obtain rfl : j = k := by omega
            rw [HYY.out] at hz
            cases hz
            exact HHE.out), HBN⟩, by simp [RowKit.intOf]; omega⟩
    · obtain rfl : k = n := by omega
      have h9 := HNO.out (fun j z hj hz => HC.out j z (by rw [← HN.out]; exact hj) hz)
      obtain ⟨rfl, rfl⟩ : o1 = 0 ∧ o2 = false := by simpa using h9
      clear h9
      go_wp2
      go_ret2
      exact ⟨rfl, HF.out⟩
/-- All that a text's runes lead to, by the document's own automaton. -/
theorem ustate_ref_no (u : Value) (Q : List Rst) (W : Rst) (s : ByteArray) (w : World) (hs : s.size * 4 ≤ 140737488355328) (he : uE s.data.toList ≠ 0) :
    Calls Tryd.prog 28 #[u, .string s] w fun e w' => e = .returned (.tuple #[.int .i64 (ustN Q W s.data.toList), .int .i64 (ustE W s.data.toList)]) ∧ Below w.heap.size w w' := by
  rw [ustN, ustE, if_neg he, if_neg he]
  have c1 := ucheck_any s w hs
  obtain ⟨er, her⟩ : ∃ z, uE s.data.toList = z := ⟨_, rfl⟩
  rw [her] at c1 he ⊢
  have h1 : (er == 0) = false := by simpa using he
  have h2 : (er != 0) = true := by simpa using he
  have C1 := Lib.hid c1
  clear c1 he her
  go_enter Tryd.func28, Tryd.ntmps28
  go_wp2_with fail
  refine C1.out.mono ?_
  rintro e w1 ⟨rfl, b1⟩
  have B1 := Lib.hid b1; clear b1
  go_wp2
  go_ret2
  exact ⟨rfl, B1.out⟩
set_option maxRecDepth 100000 in
set_option maxHeartbeats 16000000 in
theorem ustate_ref (u : Value) (l : List Wrd) (hn : wisS l = 0) (s : ByteArray) (w : World) (hu : WRuns w u l) (hl : l.length ≤ 2000000) (hs : s.size * 4 ≤ 140737488355328) (hsz : ∀ x ∈ l, x.1.size * 4 ≤ 140737488355328) (hlt : ltrs (rnW l) ≤ 90000) :
    Calls Tryd.prog 28 #[u, .string s] w fun e w' => e = .returned (.tuple #[.int .i64 (ustN (staQ (rnW l)) (rnW l) s.data.toList), .int .i64 (ustE (rnW l) s.data.toList)]) ∧ Below w.heap.size w w' := by
  by_cases he : uE s.data.toList = 0
  rotate_left
  · exact ustate_ref_no u (staQ (rnW l)) (rnW l) s w hs he
  obtain ⟨hv, hil, hus⟩ := uE_ok he
  have c1 := ucheck_any s w hs
  rw [he] at c1
  have hwr := rnW_rising hn
  obtain ⟨W, hW⟩ : ∃ z, rnW l = z := ⟨_, rfl⟩
  have c2 := fun w' (hb : Below w.heap.size w w') => rnew_any u l hn w' (hu.below hb) hl hsz hlt
  rw [ustN, ustE, if_pos he, if_pos he]
  rw [hW] at hwr ⊢
  simp only [hW] at c2
  rw [hus]
  obtain ⟨rs, hrs⟩ : ∃ z, items s.data.toList = z := ⟨_, rfl⟩
  obtain ⟨nr, hnr⟩ : ∃ z, rs.length = z := ⟨_, rfl⟩
  have c3 := fun w' => refDecode_any s w' hs
  unfold DecPost at c3
  simp only [hv, if_true, hrs, hnr] at c3
  rw [hrs] at hil ⊢
  rw [hnr] at hil
  have hwv : wlkV (staQ W) W rs = if wlkB W rs = true then (staQ W).idxOf (behP W rs) else 0 := rfl
  have hwb : wlkB W rs = decide (rs = [] ∨ behP W rs ≠ []) := rfl
  obtain ⟨ov, hov⟩ : ∃ z, wlkV (staQ W) W rs = z := ⟨_, rfl⟩
  obtain ⟨ob, hob⟩ : ∃ z, wlkB W rs = z := ⟨_, rfl⟩
  rw [hov, hob] at hwv
  rw [hob] at hwb
  rw [hov, hob]
  have HNO : Hid (rs ≠ [] → behP W rs = [] → ov = 0 ∧ ob = false) := Lib.hid (fun h1 h2 => by
    have e : ob = false := by rw [hwb]; exact decide_eq_false (by rintro (h | h); exact h1 h; exact h h2)
    exact ⟨by rw [hwv, e]; rfl, e⟩)
  have HYES : Hid ((rs = [] ∨ behP W rs ≠ []) → ov = (staQ W).idxOf (behP W rs) ∧ ob = true) := Lib.hid (fun h1 => by
    have e : ob = true := by rw [hwb]; exact decide_eq_true h1
    exact ⟨by rw [hwv, e]; rfl, e⟩)
  obtain ⟨M, hM⟩ : ∃ z, (tldS W).length = z := ⟨_, rfl⟩
  simp only [hM] at c2
  have hQ0 : (staQ W)[0]? = some W := staQ_zero W
  have hi0 : (staQ W).idxOf W = 0 := by
    cases hq : staQ W with
    | nil => rw [hq] at hQ0; cases hQ0
    | cons a q =>
      rw [hq] at hQ0
      obtain rfl : a = W := by simpa using hQ0
      simp
  have C1 := Lib.hid c1; have C2 := Lib.hid c2; have C3 := Lib.hid c3; have HM := Lib.hid hM; have HNR := Lib.hid hnr; have HQ0 := Lib.hid hQ0; have HI0 := Lib.hid hi0
  clear c1 c2 c3 hwv hwb hov hob hM hQ0 hi0 hnr hrs hus he hv hwr hW hs hlt hsz
  go_enter Tryd.func28, Tryd.ntmps28
  go_wp2_with fail
  refine C1.out.mono ?_
  rintro e w1 ⟨rfl, b1⟩
  have B1 := Lib.hid b1; clear b1
  go_wp2_with fail
  refine (C2.out _ B1.out).mono ?_
  rintro e w2 ⟨A2, c2, T2, rfl, h2, b2⟩
  have B2 := Lib.hid (B1.out.trans (b2.mono B1.out.size)); have H2 := Lib.hid h2
  clear h2 b2
  go_wp2_with fail
  refine (C3.out _).mono ?_
  rintro e w3 ⟨v3, rfl, h3, b3⟩
  obtain ⟨A3, c3, e3⟩ := z_own_slice h3
  subst e3
  have hr3 : Runs w3 (.slice A3 nr c3) rs := Runs.of_own h3
  have B3 := Lib.hid (B2.out.trans (b3.mono B2.out.size)); have H3 := Lib.hid (H2.out.below b3); have R3 := Lib.hid hr3
  clear h3 b3 hr3 H2
  go_wp2
  go_loopw [10, 29] (fun s10 s29 wr => ∃ (j st : Nat), s10 = .int .i64 (st : Int) ∧ s29 = .int .i64 (j : Int) ∧ j ≤ nr ∧ Hid ((staQ W)[st]? = some (behP W (rs.take j)) ∧ st = (staQ W).idxOf (behP W (rs.take j)) ∧ (rs.take j = [] ∨ behP W (rs.take j) ≠ [])) ∧ Hid (Below w3.heap.size w3 wr)) (fun _ s29 _ => nr - (RowKit.intOf s29).toNat)
  case atStart => exact ⟨0, 0, rfl, rfl, Nat.zero_le _, Lib.hid ⟨HQ0.out, HI0.out.symm, .inl rfl⟩, Lib.hid (Below.refl _ _)⟩
  case round =>
    obtain ⟨j, st, rfl, rfl, hjn, HS, HB⟩ := hrel
    obtain ⟨hs1, hs2, hs3⟩ := HS.out
    have HF := Lib.hid (B3.out.trans (HB.out.mono B3.out.size))
    by_cases hj : j < nr
    · obtain ⟨r, hr⟩ : ∃ r, rs[j]? = some r := ⟨_, List.getElem?_eq_getElem (by rw [HNR.out]; exact hj)⟩
      obtain ⟨b9, o9, e9, _, g0⟩ := z_run_cell (R3.out.below HB.out) HNR.out hr
      subst e9
      have i1 : (j : Int) < (nr : Int) := by omega
      have htk : rs.take (j + 1) = rs.take j ++ [r] := by rw [List.take_add_one, hr]; rfl
      have hld : rs = rs.take (j + 1) ++ rs.drop (j + 1) := (List.take_append_drop _ _).symm
      have hlne : rs ≠ [] := fun e => by rw [e] at hr; cases hr
      obtain ⟨x, hX⟩ : ∃ z, behP W (rs.take j) = z := ⟨_, rfl⟩
      rw [hX] at hs1
      have hst := place_step (W := W) (p := rs.take j) (r := r)
      rw [hX, ← htk] at hst
      obtain ⟨g, cap, t, ev, hbg, hlt, ht, hxx, q0, q1, q2⟩ := (H3.out.below HB.out).at_ HM.out (tldS_at hs1)
      cases ev
      have hstM : st < M := by
        have h1 := (List.getElem?_eq_some_iff.1 (tldS_at hs1)).1
        have h2 := HM.out
        omega
      obtain ⟨⟨x0, x1, x2⟩, tb, ⟨y0, y1, y2⟩⟩ := t
      have hxE : GRuns oeCell 2 wr (.slice y0 y1 y2) (stF (staQ W) x).2.2 := hxx.2.2.1
      obtain ⟨A', c', e', _⟩ := id hxE
      obtain ⟨ne, hne⟩ : ∃ z, (stF (staQ W) x).2.2.length = z := ⟨_, rfl⟩
      rw [hne] at e'
      cases e'
      change wr.cell? ⟨g, st * 3, none⟩ = some (.slice x0 x1 x2) at q0
      change wr.cell? ⟨g, st * 3 + 1, none⟩ = some (.bool tb) at q1
      change wr.cell? ⟨g, st * 3 + 2, none⟩ = some (.slice y0 y1 y2) at q2
      have cn := rnext_any x0 x1 x2 tb y0 y1 y2 _ r wr hne hxE
      rw [nxtE_stF] at cn
      have hbe : r ∈ hdsR x → (staQ W).idxOf (behR x r) = (staQ W).idxOf (behP W (rs.take (j + 1))) := fun hm => by rw [htk, behP_snoc, hX]
      have hyes : r ∈ hdsR x → (staQ W)[(staQ W).idxOf (behP W (rs.take (j + 1)))]? = some (behP W (rs.take (j + 1))) := fun hm => staQ_at (hst.1 hm)
      have m1 : (st : Int) < (M : Int) := by omega
      have m0 : (0 : Int) ≤ (st : Int) := by omega
      by_cases hm : r ∈ hdsR x
      · rw [if_pos hm] at cn
        simp only at cn
        obtain ⟨to_, hto⟩ : ∃ z, (staQ W).idxOf (behR x r) = z := ⟨_, rfl⟩
        rw [hto] at cn hbe
        have hnx : Hid ((staQ W)[to_]? = some (behP W (rs.take (j + 1))) ∧ to_ = (staQ W).idxOf (behP W (rs.take (j + 1))) ∧ (rs.take (j + 1) = [] ∨ behP W (rs.take (j + 1)) ≠ [])) := Lib.hid ⟨by rw [hbe hm]; exact hyes hm, hbe hm, .inr (hst.1 hm)⟩
        have CN := Lib.hid cn
        clear hs1 hs2 hs3 hr htk hld hlne hX hst cn hbe hyes hto hm HS hxx hxE hne ht hlt hbg
        go_wp2_with fail
        refine CN.out.mono ?_
        rintro e w5 ⟨rfl, b5⟩
        have hb5 := Lib.hid (HB.out.trans (b5.mono HB.out.size))
        clear b5 CN
        go_wp2
        exact ⟨⟨j + 1, to_, rfl, by go_num, by omega, hnx, hb5⟩, by simp [RowKit.intOf]; omega⟩
      · rw [if_neg hm] at cn
        simp only at cn
        have hnil : behP W rs = [] := by
          have e1 : behP W (rs.take (j + 1)) = [] := by
            cases he : behP W (rs.take (j + 1)) with
            | nil => rfl
            | cons a b => exact absurd (hst.2 (by rw [he]; exact List.cons_ne_nil _ _)) hm
          rw [hld]
          exact behP_nil_mono _ _ e1
        obtain ⟨e1, e2⟩ := HNO.out hlne hnil
        subst e1 e2
        have CN := Lib.hid cn
        clear hs1 hs2 hs3 hr htk hld hlne hX hst cn hbe hyes hm hnil HS hxx hxE hne ht hlt hbg
        go_wp2_with fail
        refine CN.out.mono ?_
        rintro e w5 ⟨rfl, b5⟩
        have hb5 := Lib.hid (HF.out.trans (b5.mono HF.out.size))
        clear b5 CN
        go_wp2
        go_ret2
        exact ⟨rfl, hb5.out⟩
    · obtain rfl : j = nr := by omega
      have hlt : rs.take j = rs := List.take_of_length_le (by rw [HNR.out]; exact Nat.le_refl _)
      rw [hlt] at hs2 hs3
      obtain ⟨e1, e2⟩ := HYES.out hs3
      rw [← hs2] at e1
      subst e1 e2
      clear hs1 hs2 hs3 hlt HS
      go_wp2
      go_ret2
      exact ⟨rfl, HF.out⟩
end Go.Proofs.YtljaibhhkjapmaaDoor
