/- Texts that several proofs of this seat share, one behind the other: JLaw JWords JUpto. -/
import Derived.Test.YtnjhbblhlgpgdaaDoorPk18
import Derived.Test.YtnjhbblhlgpgdaaDoorPk6
/- great, alive, walk of layer 10: which words are looked at; the document's example; where runes lead from the first state on. The document's Place. -/
namespace Go.Proofs.YtnjhbblhlgpgdaaDoor
open Go.RowKit Go.Shelf
attribute [local go_sem] Oper.semAt_some
set_option linter.unusedSimpArgs false
set_option linter.unusedVariables false

/-- Whether words are more than are looked at. -/
def gr10 (l : List Wrd) : Bool := decide (60 < l.length) || decide (500 < smW l)
theorem gr10_no {l : List Wrd} (h : gr10 l = false) : l.length ≤ 60 ∧ smW l ≤ 500 := by
  unfold gr10 at h
  rw [Bool.or_eq_false_iff] at h
  have h1 := of_decide_eq_false h.1
  have h2 := of_decide_eq_false h.2
  exact ⟨by omega, by omega⟩
set_option maxRecDepth 100000 in
set_option maxHeartbeats 4000000 in
theorem great10_det (u : Value) (l : List Wrd) (w : World) (hu : WRuns w u l) (hz : szMW l) :
    Calls Tryd.prog 11 #[u] w fun e w' => e = .returned (.bool (gr10 l)) ∧ Below w.heap.size w w' := by
  have hgr : gr10 l = (decide (60 < l.length) || decide (500 < smW l)) := rfl
  obtain ⟨res, hres⟩ : ∃ z, gr10 l = z := ⟨_, rfl⟩
  rw [hres] at hgr ⊢
  have HGR := Lib.hid hgr; clear hgr hres
  have hcm : l.length ≤ maxLen := by
    obtain ⟨_, c, _, h1, h2, _⟩ := hu
    exact Nat.le_trans h1 h2.1
  obtain ⟨A, c, e⟩ := hu.slice
  subst e
  have HU := Lib.hid hu; clear hu
  obtain ⟨n, hn⟩ : ∃ n, l.length = n := ⟨_, rfl⟩
  rw [hn] at HU hcm ⊢
  have HN := Lib.hid hn
  unfold maxLen at hcm
  by_cases hbig : 60 < n
  · clear hz hn
    go_enter Tryd.func11, Tryd.ntmps11
    go_wp2
    go_loopw [3, 8] (fun s3 s8 wr => ∃ (k : Nat) (s : Int), k ≤ n ∧ s8 = .int .i64 k ∧ s3 = .int .i64 s ∧ Hid (Below w.heap.size w wr)) (fun _ s8 _ => n - (RowKit.intOf s8).toNat)
    case atStart => exact ⟨0, 0, Nat.zero_le _, rfl, rfl, Lib.hid (Below.refl _ _)⟩
    case round =>
      obtain ⟨k, s, hkn, rfl, rfl, BW⟩ := hrel
      by_cases hk : k < n
      · have k1 : (k : Int) < (n : Int) := by omega
        obtain ⟨⟨p1, p2⟩, hp⟩ : ∃ p, l[k]? = some p := ⟨_, List.getElem?_eq_getElem (by rw [HN.out]; exact hk)⟩
        obtain ⟨b, o, rfl, _, hc⟩ := (HU.out.below BW.out).cells HN.out (by omega)
        obtain ⟨g0, g1⟩ := wrd_cells hc hp
        simp only at g0 g1
        have hal : Hid (Below w.heap.size w (wr.alloc (.cells #[.string p1, .int .i64 p2] 55))) := Lib.hid (BW.out.alloc BW.out.size _)
        clear hc hp
        go_wp2
        exact ⟨⟨k + 1, _, by omega, by go_num, rfl, hal⟩, by simp [RowKit.intOf]; omega⟩
      · obtain rfl : k = n := by omega
        have h5 : (60 : Int) < (k : Int) := by omega
        have hr : Hid (res = true) := Lib.hid (by rw [HGR.out, HN.out, decide_eq_true hbig]; rfl)
        go_wp2
        go_ret
        exact ⟨by rw [hr.out]; rfl, BW.out⟩
  · have hb' := smW_le (l := l) (c := 140737488355328) hz
    obtain ⟨sm, hsm⟩ : ∃ f, f = fun k => smW (l.take k) := ⟨_, rfl⟩
    have hst : ∀ k x, l[k]? = some x → sm (k + 1) = sm k + x.1.size := fun k x hx => by rw [hsm]; exact smW_take k x hx
    have hbd : ∀ k, sm k ≤ k * 140737488355328 := fun k => by rw [hsm]; exact hb' k
    have h0 : sm 0 = 0 := by rw [hsm]; simp [smW]
    have hfin : smW l = sm n := by
      rw [hsm]
      simp only
      rw [List.take_of_length_le (by rw [hn]; exact Nat.le_refl _)]
    have ST := Lib.hid hst; have BD := Lib.hid hbd; have HF := Lib.hid hfin; have HZ := Lib.hid hz
    clear hst hbd hfin hsm hb' hz hn
    go_enter Tryd.func11, Tryd.ntmps11
    go_wp2
    go_loopw [3, 8] (fun s3 s8 wr => ∃ k : Nat, k ≤ n ∧ s8 = .int .i64 k ∧ s3 = .int .i64 (sm k : Nat) ∧ Hid (Below w.heap.size w wr)) (fun _ s8 _ => n - (RowKit.intOf s8).toNat)
    case atStart => exact ⟨0, Nat.zero_le _, rfl, by rw [h0]; rfl, Lib.hid (Below.refl _ _)⟩
    case round =>
      obtain ⟨k, hkn, rfl, rfl, BW⟩ := hrel
      have bk := BD.out k
      obtain ⟨s, es⟩ : ∃ s, sm k = s := ⟨_, rfl⟩
      rw [es] at bk ⊢
      have HES := Lib.hid es; clear es
      by_cases hk : k < n
      · have k1 : (k : Int) < (n : Int) := by omega
        obtain ⟨⟨p1, p2⟩, hp⟩ : ∃ p, l[k]? = some p := ⟨_, List.getElem?_eq_getElem (by rw [HN.out]; exact hk)⟩
        obtain ⟨b, o, rfl, _, hc⟩ := (HU.out.below BW.out).cells HN.out (by omega)
        obtain ⟨g0, g1⟩ := wrd_cells hc hp
        simp only at g0 g1
        have hs1 := ST.out k _ hp
        have hz1 := HZ.out _ (List.mem_of_getElem? hp)
        simp only at hs1 hz1
        rw [HES.out] at hs1
        have HS1 := Lib.hid hs1
        have w2 : IntKind.i64.wrap ((s : Int) + (p1.size : Int)) = (s : Int) + (p1.size : Int) := by rw [IntKind.wrap_i64]; omega
        have hal : Hid (Below w.heap.size w (wr.alloc (.cells #[.string p1, .int .i64 p2] 55))) := Lib.hid (BW.out.alloc BW.out.size _)
        clear hc hp hs1
        go_wp2
        exact ⟨⟨k + 1, by omega, by go_num, by rw [HS1.out]; simp, hal⟩, by simp [RowKit.intOf]; omega⟩
      · obtain rfl : k = n := by omega
        have h5 : ¬ (60 : Int) < (k : Int) := by omega
        by_cases h8 : 500 < s
        · have h8' : (500 : Int) < (s : Int) := by omega
          have hr : Hid (res = true) := Lib.hid (by rw [HGR.out, HF.out, HES.out, decide_eq_true h8, Bool.or_true])
          go_wp2
          go_ret
          exact ⟨by rw [hr.out]; rfl, BW.out⟩
        · have h8' : ¬ (500 : Int) < (s : Int) := by omega
          have hr : Hid (res = false) := Lib.hid (by rw [HGR.out, HF.out, HES.out, HN.out, decide_eq_false h8, decide_eq_false hbig]; rfl)
          go_wp2
          go_ret
          exact ⟨by rw [hr.out]; rfl, BW.out⟩
/-- The document's example. -/
def Alive10 : Prop := ∀ w, Okw w → Calls Tryd.prog 10 #[] w fun e w' => e = .returned (.bool true) ∧ Below w.heap.size w w'
def L4 : List Wrd := [(⟨#[97, 109]⟩, 1), (⟨#[97, 110]⟩, 1), (⟨#[105, 109]⟩, 1), (⟨#[105, 110]⟩, 1)]
theorem ex10 : wisS L4 = 0 ∧ (staQ (rnW L4)).length = 3 ∧ (edK (staQ (rnW L4)) (staQ (rnW L4)).length).length = 4 := by
  decide +kernel
set_option maxRecDepth 100000 in
set_option maxHeartbeats 4000000 in
theorem alive10_any : Alive10 := by
  intro w h
  have r0 := wrds_lit w L4 (by decide)
  change WRuns (w.alloc (.cells #[.string ⟨#[97, 109]⟩, .int .i64 1, .string ⟨#[97, 110]⟩, .int .i64 1, .string ⟨#[105, 109]⟩, .int .i64 1, .string ⟨#[105, 110]⟩, .int .i64 1] 55)) (.slice (some ⟨w.heap.size, 0, none⟩) 4 4) _ at r0
  have b0 := bel_one w (.cells #[.string ⟨#[97, 109]⟩, .int .i64 1, .string ⟨#[97, 110]⟩, .int .i64 1, .string ⟨#[105, 109]⟩, .int .i64 1, .string ⟨#[105, 110]⟩, .int .i64 1] 55)
  obtain ⟨wa, hwa⟩ : ∃ z, w.alloc (.cells #[.string ⟨#[97, 109]⟩, .int .i64 1, .string ⟨#[97, 110]⟩, .int .i64 1, .string ⟨#[105, 109]⟩, .int .i64 1, .string ⟨#[105, 110]⟩, .int .i64 1] 55) = z := ⟨_, rfl⟩
  rw [hwa] at r0 b0
  have c1 := newd_any (.slice (some ⟨w.heap.size, 0, none⟩) 4 4) L4 wa (h.below b0) r0 (by decide) (fun b hb => by
    simp only [L4, List.mem_cons, List.mem_nil_iff, or_false] at hb
    rcases hb with rfl | rfl | rfl | rfl <;> (show _ ≤ 2000000; decide))
  have c2 := fun w => next_nil 0 97 w
  have c3 := fun w d (hd : DgAt w d (staQ (rnW L4)) L4) => states_any w d _ _ hd (dgOk ex10.1)
  have c4 := fun w d (hd : DgAt w d (staQ (rnW L4)) L4) => edges_any w d _ _ hd
  have c5 := fun w d (hd : DgAt w d (staQ (rnW L4)) L4) => len_any w d _ _ hd
  simp only [ex10.2.1] at c3
  simp only [ex10.2.2] at c4
  have c5' : ∀ w d, DgAt w d (staQ (rnW L4)) L4 → Calls Tryd.prog 18 #[.pointer (some ⟨d, 0, none⟩)] w fun e w' => e = .returned (.int .i64 4) ∧ w' = w := c5
  have C1 := Lib.hid c1; have C2 := Lib.hid c2; have C3 := Lib.hid c3; have C4 := Lib.hid c4; have C5 := Lib.hid c5'; have HWA := Lib.hid hwa; have HB0 := Lib.hid b0
  have hx := Lib.hid ex10.1
  clear c1 c2 c3 c4 c5 c5' hwa b0 r0
  go_enter Tryd.func10, Tryd.ntmps10
  go_wp2_with fail
  rw [HWA.out]
  refine C1.out.mono ?_
  rintro e w1 ⟨b1, hp⟩
  rcases hp with ⟨hne, _⟩ | ⟨_, d, rfl, hd⟩
  · exact absurd hx.out hne
  have B1 := Lib.hid (HB0.out.trans (b1.mono HB0.out.size)); have HD := Lib.hid hd
  clear b1 hd
  go_wp2_with fail
  refine (C2.out _).mono ?_
  rintro e w2 ⟨rfl, e2⟩
  obtain rfl := e2.symm
  go_wp2_with fail
  refine (C3.out _ d HD.out).mono ?_
  rintro e w3 ⟨rfl, e3⟩
  obtain rfl := e3.symm
  go_wp2_with fail
  refine (C4.out _ d HD.out).mono ?_
  rintro e w4 ⟨rfl, e4⟩
  obtain rfl := e4.symm
  go_wp2_with fail
  refine (C5.out _ d HD.out).mono ?_
  rintro e w5 ⟨rfl, e5⟩
  obtain rfl := e5.symm
  go_wp2
  go_ret
  exact ⟨rfl, B1.out⟩

/-- Where runes lead from the first state on, and whether they lead anywhere. -/
def wlkB (W : Rst) (l : List Int) : Bool := decide (l = [] ∨ behP W l ≠ [])
def wlkV (Q : List Rst) (W : Rst) (l : List Int) : Nat := if wlkB W l = true then Q.idxOf (behP W l) else 0
set_option maxRecDepth 100000 in
set_option maxHeartbeats 8000000 in
theorem walkd_any (w : World) (d : Nat) (L : List Wrd) (W : Rst) (hW : W.Pairwise (· < ·)) (Q : List Rst) (hQ : staQ W = Q) (h : DgAt w d Q L) (hk : DgOk Q L) (v : Value) (l : List Int) (hv : Runs w v l) (hl : l.length ≤ 2000000) :
    Calls Tryd.prog 32 #[.pointer (some ⟨d, 0, none⟩), v] w fun e w' => e = .returned (.tuple #[.int .i64 (wlkV Q W l : Int), .bool (wlkB W l)]) ∧ Below w.heap.size w w' := by
  have hwv : wlkV Q W l = if wlkB W l = true then Q.idxOf (behP W l) else 0 := rfl
  have hwb : wlkB W l = decide (l = [] ∨ behP W l ≠ []) := rfl
  obtain ⟨ov, hov⟩ : ∃ z, wlkV Q W l = z := ⟨_, rfl⟩
  obtain ⟨ob, hob⟩ : ∃ z, wlkB W l = z := ⟨_, rfl⟩
  rw [hov, hob] at hwv
  rw [hob] at hwb
  rw [hov, hob]
  have HNO : Hid (l ≠ [] → behP W l = [] → ov = 0 ∧ ob = false) := Lib.hid (fun h1 h2 => by
    have e : ob = false := by rw [hwb]; exact decide_eq_false (by rintro (h | h); exact h1 h; exact h h2)
    exact ⟨by rw [hwv, e]; rfl, e⟩)
  have HYES : Hid ((l = [] ∨ behP W l ≠ []) → ov = Q.idxOf (behP W l) ∧ ob = true) := Lib.hid (fun h1 => by
    have e : ob = true := by rw [hwb]; exact decide_eq_true h1
    exact ⟨by rw [hwv, e]; rfl, e⟩)
  obtain ⟨A, c, ev⟩ : ∃ A c, v = .slice A l.length c := by obtain ⟨A, c, e, _⟩ := hv; exact ⟨A, c, e⟩
  obtain ⟨n, hn⟩ : ∃ z, l.length = z := ⟨_, rfl⟩
  rw [hn] at ev hl
  subst ev
  have hQ0 : Q[0]? = some W := by rw [← hQ]; exact staQ_zero W
  have hi0 : Q.idxOf W = 0 := by
    cases hq : Q with
    | nil => rw [hq] at hQ0; cases hQ0
    | cons a q =>
      rw [hq] at hQ0
      obtain rfl : a = W := by simpa using hQ0
      simp
  have HW := Lib.hid hW; have HQ := Lib.hid hQ; have HD := Lib.hid h; have HK := Lib.hid hk; have HV := Lib.hid hv; have HN := Lib.hid hn; have HQ0 := Lib.hid hQ0; have HI0 := Lib.hid hi0
  clear hwv hwb hov hob hW hQ h hk hv hn hQ0 hi0
  go_enter Tryd.func32, Tryd.ntmps32
  go_wp2
  go_loopw [6, 13] (fun s6 s13 wr => ∃ (j st : Nat), s6 = .int .i64 (st : Int) ∧ s13 = .int .i64 (j : Int) ∧ j ≤ n ∧ Hid (Q[st]? = some (behP W (l.take j)) ∧ st = Q.idxOf (behP W (l.take j)) ∧ (l.take j = [] ∨ behP W (l.take j) ≠ [])) ∧ Hid (Below w.heap.size w wr)) (fun _ s13 _ => n - (RowKit.intOf s13).toNat)
  case atStart => exact ⟨0, 0, rfl, rfl, Nat.zero_le _, Lib.hid ⟨HQ0.out, HI0.out.symm, .inl rfl⟩, Lib.hid (Below.refl _ _)⟩
  case round =>
    obtain ⟨j, st, rfl, rfl, hjn, HS, HB⟩ := hrel
    obtain ⟨hs1, hs2, hs3⟩ := HS.out
    by_cases hj : j < n
    · obtain ⟨r, hr⟩ : ∃ r, l[j]? = some r := ⟨_, List.getElem?_eq_getElem (by rw [HN.out]; exact hj)⟩
      obtain ⟨b9, o9, e9, _, g0⟩ := z_run_cell (HV.out.below HB.out) HN.out hr
      subst e9
      have i1 : (j : Int) < (n : Int) := by omega
      have htk : l.take (j + 1) = l.take j ++ [r] := by rw [List.take_add_one, hr]; rfl
      have hld : l = l.take (j + 1) ++ l.drop (j + 1) := (List.take_append_drop _ _).symm
      have hlne : l ≠ [] := fun e => by rw [e] at hr; cases hr
      obtain ⟨x, hX⟩ : ∃ z, behP W (l.take j) = z := ⟨_, rfl⟩
      have hxr : x.Pairwise (· < ·) := by rw [← hX]; exact behP_rising HW.out
      rw [hX] at hs1
      have hst := place_step (W := W) (p := l.take j) (r := r)
      rw [hX, ← htk] at hst
      have cn := next_in wr d Q L (HD.out.below HB.out) HK.out st x hs1 hxr r
      have hbe : r ∈ hdsR x → (byE Q x r).2.1 = Q.idxOf (behP W (l.take (j + 1))) := fun hm => by
        unfold byE
        rw [if_pos hm, htk, behP_snoc, hX]
      have hyes : r ∈ hdsR x → Q[Q.idxOf (behP W (l.take (j + 1)))]? = some (behP W (l.take (j + 1))) := fun hm => by
        have := staQ_at (hst.1 hm)
        rwa [HQ.out] at this
      obtain ⟨to_, hto⟩ : ∃ z, (byE Q x r).2.1 = z := ⟨_, rfl⟩
      rw [hto] at cn hbe
      by_cases hm : r ∈ hdsR x
      · rw [if_pos hm] at cn
        have hnx : Hid (Q[to_]? = some (behP W (l.take (j + 1))) ∧ to_ = Q.idxOf (behP W (l.take (j + 1))) ∧ (l.take (j + 1) = [] ∨ behP W (l.take (j + 1)) ≠ [])) := Lib.hid ⟨by rw [hbe hm]; exact hyes hm, hbe hm, .inr (hst.1 hm)⟩
        have CN := Lib.hid cn
        clear hs1 hs2 hs3 hr htk hld hlne hX hxr hst cn hbe hyes hto hm HS
        go_wp2_with fail
        refine CN.out.mono ?_
        rintro e w2 ⟨rfl, b2⟩
        have hb2 := Lib.hid (HB.out.trans (b2.mono HB.out.size))
        clear b2 CN
        go_wp2
        exact ⟨⟨j + 1, to_, rfl, by go_num, by omega, hnx, hb2⟩, by simp [RowKit.intOf]; omega⟩
      · rw [if_neg hm] at cn
        have hnil : behP W l = [] := by
          have e1 : behP W (l.take (j + 1)) = [] := by
            cases he : behP W (l.take (j + 1)) with
            | nil => rfl
            | cons a b => exact absurd (hst.2 (by rw [he]; exact List.cons_ne_nil _ _)) hm
          rw [hld]
          exact behP_nil_mono _ _ e1
        obtain ⟨e1, e2⟩ := HNO.out hlne hnil
        subst e1 e2
        have CN := Lib.hid cn
        clear hs1 hs2 hs3 hr htk hld hlne hX hxr hst cn hbe hyes hto hm hnil HS
        go_wp2_with fail
        refine CN.out.mono ?_
        rintro e w2 ⟨rfl, b2⟩
        have hb2 := Lib.hid (HB.out.trans (b2.mono HB.out.size))
        clear b2 CN
        go_wp2
        go_ret2
        exact ⟨rfl, hb2.out⟩
    · obtain rfl : j = n := by omega
      have i1 : ¬ (j : Int) < (j : Int) := by omega
      have hlt : l.take j = l := List.take_of_length_le (by rw [HN.out]; exact Nat.le_refl _)
      rw [hlt] at hs2 hs3
      obtain ⟨e1, e2⟩ := HYES.out hs3
      rw [← hs2] at e1
      subst e1 e2
      clear hs1 hs2 hs3 hlt HS
      go_wp2
      go_ret2
      exact ⟨rfl, HB.out⟩

/-- A word's place, out of the words. -/
theorem place_at {L : List Wrd} (hn : wisS L = 0) {i : Nat} {x : Wrd} (hx : L[i]? = some x) : isW (rnW L) x.1.data.toList ∧ plcV (rnW L) x.1.data.toList = i := by
  have hc := wall_zero.1 (wisS_facts hn).1 x (List.mem_of_getElem? hx)
  have ht : tokErr x.1.data.toList = 0 := by
    unfold wchk at hc
    split at hc
    · assumption
    · exact absurd hc (by assumption)
  have hri := rnW_rising hn
  have hrn : (rnW L)[i]? = some (rnK x.1) := by unfold rnW; rw [List.getElem?_map, hx]; rfl
  have hm : rnK x.1 ∈ rnW L := List.mem_of_getElem? hrn
  have hw : isW (rnW L) x.1.data.toList := ⟨ht, hm⟩
  refine ⟨hw, ?_⟩
  unfold plcV
  rw [if_pos hw]
  have h2 := (ahdP_word hri (p := rnK x.1)).2 hm
  show ahdP (rnW L) (rnK x.1) = i
  obtain ⟨a1, a2⟩ := List.getElem?_eq_some_iff.1 h2
  obtain ⟨b1, b2⟩ := List.getElem?_eq_some_iff.1 hrn
  rcases Nat.lt_trichotomy (ahdP (rnW L) (rnK x.1)) i with h | h | h
  · have := List.pairwise_iff_getElem.1 hri _ i a1 b1 h
    rw [a2, b2] at this
    exact absurd this (ll_irrefl _)
  · exact h
  · have := List.pairwise_iff_getElem.1 hri i _ b1 a1 h
    rw [a2, b2] at this
    exact absurd this (ll_irrefl _)
theorem place_none {L : List Wrd} (hn : wisS L = 0) {s : ByteArray} (h : ∀ x ∈ L, x.1 ≠ s) : ¬ isW (rnW L) s.data.toList := fun hw => by
  obtain ⟨h1, h2⟩ := hw
  obtain ⟨b, hb, e⟩ := (mem_rnW hn (tok_valid h1)).1 h2
  exact h b hb e
theorem z_toList_ext {a b : ByteArray} (h : a.toList = b.toList) : a = b := key_ext (by rw [← Lib.toList_data, ← Lib.toList_data]; exact h)
set_option maxRecDepth 100000 in
set_option maxHeartbeats 4000000 in
theorem refPlace10_any (v : Value) (L : List Wrd) (hn : wisS L = 0) (s : ByteArray) (w : World) (hv : WRuns w v L) :
    Calls Tryd.prog 27 #[v, .string s] w fun e w' => e = .returned (.tuple #[.int .i64 (plcV (rnW L) s.data.toList : Int), .bool (decide (isW (rnW L) s.data.toList))]) ∧ Below w.heap.size w w' := by
  have hyes : ∀ i x, L[i]? = some x → x.1 = s → plcV (rnW L) s.data.toList = i ∧ decide (isW (rnW L) s.data.toList) = true := fun i x hx e => by
    obtain ⟨h1, h2⟩ := place_at hn hx
    rw [e] at h1 h2
    exact ⟨h2, decide_eq_true h1⟩
  have hno : (∀ x ∈ L, x.1 ≠ s) → plcV (rnW L) s.data.toList = 0 ∧ decide (isW (rnW L) s.data.toList) = false := fun h => by
    have := place_none hn h
    exact ⟨by unfold plcV; rw [if_neg this], decide_eq_false this⟩
  have hl := (wisS_facts hn).2.2
  obtain ⟨pv, hpv⟩ : ∃ z, plcV (rnW L) s.data.toList = z := ⟨_, rfl⟩
  obtain ⟨pb, hpb⟩ : ∃ z, decide (isW (rnW L) s.data.toList) = z := ⟨_, rfl⟩
  simp only [hpv, hpb] at hyes hno
  rw [hpv, hpb]
  obtain ⟨A, c, ev⟩ := hv.slice
  obtain ⟨n, hN⟩ : ∃ z, L.length = z := ⟨_, rfl⟩
  rw [hN] at ev hl
  subst ev
  have HY := Lib.hid hyes; have HNO := Lib.hid hno; have HV := Lib.hid hv; have HN := Lib.hid hN
  clear hyes hno hv hN hpv hpb hn
  go_enter Tryd.func27, Tryd.ntmps27
  go_wp2
  go_loopw [10] (fun s10 wr => ∃ j : Nat, s10 = .int .i64 (j : Int) ∧ j ≤ n ∧ Hid (∀ i x, i < j → L[i]? = some x → x.1 ≠ s) ∧ Hid (Below w.heap.size w wr)) (fun s10 _ => n - (RowKit.intOf s10).toNat)
  case atStart => exact ⟨0, rfl, Nat.zero_le _, Lib.hid (fun i x h => absurd h (Nat.not_lt_zero _)), Lib.hid (Below.refl _ _)⟩
  case round =>
    obtain ⟨j, rfl, hjn, HS, HB⟩ := hrel
    by_cases hj : j < n
    · obtain ⟨⟨x1, x2⟩, hx⟩ : ∃ x, L[j]? = some x := ⟨_, List.getElem?_eq_getElem (by rw [HN.out]; exact hj)⟩
      obtain ⟨b, o, rfl, _, hc⟩ := (HV.out.below HB.out).cells HN.out (by omega)
      obtain ⟨g0, g1⟩ := wrd_cells hc hx
      simp only at g0 g1
      have i1 : (j : Int) < (n : Int) := by omega
      have hal : Hid (Below w.heap.size w (wr.alloc (.cells #[.string x1, .int .i64 x2] 55))) := Lib.hid (HB.out.alloc HB.out.size _)
      by_cases he : x1 = s
      · obtain ⟨e1, e2⟩ := HY.out j _ hx he
        subst e1 e2 he
        clear hc hx HB
        go_wp2
        go_ret2
        exact ⟨rfl, hal.out⟩
      · have hnx : Hid (∀ i x, i < j + 1 → L[i]? = some x → x.1 ≠ s) := Lib.hid (fun i x hi h => by
          rcases Nat.lt_or_ge i j with h1 | h1
          · exact HS.out i x h1 h
          · obtain rfl : i = j := by omega
            rw [hx] at h
            obtain rfl := Option.some.inj h
            exact he)
        have he2 : (x1.toList == s.toList) = false := beq_eq_false_iff_ne.2 (fun e => he (z_toList_ext e))
        clear hc hx HS
        go_wp2
        exact ⟨⟨j + 1, by go_num, by omega, hnx, hal⟩, by simp [RowKit.intOf]; omega⟩
    · obtain rfl : j = n := by omega
      have i1 : ¬ (j : Int) < (j : Int) := by omega
      obtain ⟨e1, e2⟩ := HNO.out (fun x hx => by
        obtain ⟨i, hi⟩ := List.mem_iff_getElem?.1 hx
        exact HS.out i x (by have := (List.getElem?_eq_some_iff.1 hi).1; rwa [HN.out] at this) hi)
      subst e1 e2
      clear HS
      go_wp2
      go_ret2
      exact ⟨rfl, HB.out⟩
end Go.Proofs.YtnjhbblhlgpgdaaDoor

/- DawgWords, walked over what dawg's functions answer. -/
namespace Go.Proofs.YtnjhbblhlgpgdaaDoor
open Go.RowKit Go.Shelf
attribute [local go_sem] Oper.semAt_some
set_option linter.unusedSimpArgs false
set_option linter.unusedVariables false

set_option maxRecDepth 100000 in
set_option maxHeartbeats 32000000 in
theorem dawgWords_walk (u : Value) (l : List Wrd) (s : ByteArray) (a : Int) (w : World) (h : Okw w) (hu : WRuns w u l) (hl : l.length ≤ 2000000) (hz : szW l) (hs : s.size ≤ 2000000) :
    Calls Tryd.prog 4 #[u, .string s, .int .i64 a] w (RetTrue w) := by
  have n1 := fun w hO hu => xnormal_any u l w hO hu hl hz
  have hzn := szW_nor hz
  have hln := worS_len l
  have g1 := fun v w (hv : WRuns w v (worS l)) => great10_det v (worS l) w hv (fun b hb => by have := hzn b hb; omega)
  have d1 := fun v w hO (hv : WRuns w v (worS l)) => newd_any v (worS l) w hO hv (by omega) hzn
  have hwi : worE l = 0 → wisS (worS l) = 0 := fun e => wor_is e
  have pl := fun w (hO : Okw w) d (hn : wisS (worS l) = 0) (hd : DgAt w d (staQ (rnW (worS l))) (worS l)) => place_any w hO d (worS l) (rnW (worS l)) (rnW_rising hn) _ rfl hd (dgOk hn) (by rw [show (rnW (worS l)).length = (worS l).length by unfold rnW; rw [List.length_map]]; exact (wisS_facts hn).2.2) s (by omega)
  have rp := fun v w (hn : wisS (worS l) = 0) (hv : WRuns w v (worS l)) => refPlace10_any v (worS l) hn s w hv
  have wo := fun w d (hn : wisS (worS l) = 0) (hd : DgAt w d (staQ (rnW (worS l))) (worS l)) (a : Int) ha => word_out w d _ _ hd a ha
  have wi := fun w d (hn : wisS (worS l) = 0) (hd : DgAt w d (staQ (rnW (worS l))) (worS l)) i x hx => word_in w d (worS l) hn _ rfl hd i x hx
  have hpe : plcE (rnW (worS l)) s.data.toList = if decide (isW (rnW (worS l)) s.data.toList) = true then 0 else 10 := by
    unfold plcE
    by_cases hw : isW (rnW (worS l)) s.data.toList
    · rw [if_pos hw, if_pos (decide_eq_true hw)]
    · rw [if_neg hw, if_neg (by rw [decide_eq_false hw]; exact Bool.false_ne_true)]
  obtain ⟨pe, hpe'⟩ : ∃ z, plcE (rnW (worS l)) s.data.toList = z := ⟨_, rfl⟩
  obtain ⟨pv, hpv'⟩ : ∃ z, plcV (rnW (worS l)) s.data.toList = z := ⟨_, rfl⟩
  obtain ⟨pb, hpb'⟩ : ∃ z, decide (isW (rnW (worS l)) s.data.toList) = z := ⟨_, rfl⟩
  simp only [hpe', hpv'] at pl
  simp only [hpv', hpb'] at rp
  rw [hpe', hpb'] at hpe
  obtain ⟨Q, hQ⟩ : ∃ z, staQ (rnW (worS l)) = z := ⟨_, rfl⟩
  simp only [hQ] at pl wo wi
  have d2 : ∀ v w, Okw w → WRuns w v (worS l) → wisS (worS l) = 0 → Calls Tryd.prog 12 #[v] w fun e w' => ∃ d, e = .returned (.tuple #[.pointer (some ⟨d, 0, none⟩), .int .i64 0]) ∧ DgAt w' d Q (worS l) ∧ Below w.heap.size w w' := fun v w hO hv hn => (d1 v w hO hv).mono (by
    rintro e w' ⟨hb, hp⟩
    rcases hp with ⟨hne, _⟩ | ⟨_, d, e1, hd⟩
    · exact absurd hn hne
    · rw [hQ] at hd
      exact ⟨d, e1, hd, hb⟩)
  obtain ⟨gr, hgr⟩ : ∃ z, gr10 (worS l) = z := ⟨_, rfl⟩
  obtain ⟨ea, hea⟩ : ∃ z, worE l = z := ⟨_, rfl⟩
  obtain ⟨X, hX⟩ : ∃ z, worS l = z := ⟨_, rfl⟩
  simp only [hgr] at g1
  simp only [hea, hX] at n1
  rw [hea] at hwi
  simp only [hX] at g1 d2 hwi pl rp wo wi
  obtain ⟨nx, hnx⟩ : ∃ z, X.length = z := ⟨_, rfl⟩
  simp only [hnx] at wo
  have hnb : nx ≤ 2000000 := by rw [← hnx, ← hX]; omega
  have HU := Lib.hid hu; have G1 := Lib.hid g1; have N1 := Lib.hid n1; have D2 := Lib.hid d2; have HWI := Lib.hid hwi; have PL := Lib.hid pl; have RP := Lib.hid rp; have WO := Lib.hid wo; have WI := Lib.hid wi; have HNX := Lib.hid hnx; have HPE := Lib.hid hpe
  clear hu g1 n1 d1 d2 hwi pl rp wo wi hnx hpe hpe' hpv' hpb' hQ hgr hea hX hzn hln hz hl
  go_enter Tryd.func4, Tryd.ntmps4
  go_wp2_with fail
  refine (alive10_any _ h).mono ?_
  rintro e w1 ⟨rfl, b1⟩
  have U1 := Lib.hid (HU.out.below b1); have K1 : Hid (Okw w1) := Lib.hid (h.below b1)
  have B1 := Lib.hid b1; clear b1
  go_wp2_with fail
  refine (N1.out _ K1.out U1.out).mono ?_
  rintro e w2 ⟨va, rfl, ra, b2⟩
  obtain ⟨Aa, ka, ea2⟩ := ra.slice
  rw [HNX.out] at ea2
  subst ea2
  have K2 : Hid (Okw w2) := Lib.hid (K1.out.below b2)
  have R2 := Lib.hid ra
  have B2 := Lib.hid (B1.out.trans (b2.mono B1.out.size)); clear b2 ra U1 K1 B1
  go_wp2_with fail
  refine (G1.out _ _ R2.out).mono ?_
  rintro e w3 ⟨rfl, b3⟩
  have K3 : Hid (Okw w3) := Lib.hid (K2.out.below b3)
  have R3 := Lib.hid (R2.out.below b3)
  have B3 := Lib.hid (B2.out.trans (b3.mono B2.out.size)); clear b3 K2 B2 R2 G1 N1
  cases gr
  rotate_left
  · go_wp2
    go_ret
    exact ⟨rfl, B3.out⟩
  by_cases h0 : ea = 0
  rotate_left
  · have h0' : (ea == 0) = false := by simpa using h0
    have h0'' : (ea != 0) = true := by simpa using h0
    go_wp2
    all_goals (go_ret; exact ⟨rfl, B3.out⟩)
  subst h0
  have hn := HWI.out (by first | rfl | trivial)
  by_cases hs1 : 1000 < s.size
  · have hs2 : (1000 : Int) < (s.size : Int) := by omega
    clear hn
    go_wp2
    go_ret
    exact ⟨rfl, B3.out⟩
  have hs2 : ¬ (1000 : Int) < (s.size : Int) := by omega
  have cn := D2.out _ w3 K3.out R3.out hn
  have CN := Lib.hid cn; have HN := Lib.hid hn
  clear cn hn D2
  go_wp2_with fail
  refine CN.out.mono ?_
  rintro e w4 ⟨d, rfl, hd, b4⟩
  have K4 : Hid (Okw w4) := Lib.hid (K3.out.below b4); have R4 := Lib.hid (R3.out.below b4)
  have B4 := Lib.hid (B3.out.trans (b4.mono B3.out.size)); have HD4 := Lib.hid hd
  clear b4 hd K3 R3 B3 CN
  have cp := PL.out w4 K4.out d HN.out HD4.out
  have CP := Lib.hid cp; clear cp PL
  go_wp2_with fail
  refine CP.out.mono ?_
  rintro e w5 ⟨rfl, b5⟩
  have R5 := Lib.hid (R4.out.below b5)
  have B5 := Lib.hid (B4.out.trans (b5.mono B4.out.size)); have HD5 := Lib.hid (HD4.out.below b5)
  clear b5 R4 B4 CP HD4
  have cr := RP.out _ w5 HN.out R5.out
  have CR := Lib.hid cr; clear cr RP
  go_wp2_with fail
  refine CR.out.mono ?_
  rintro e w6 ⟨rfl, b6⟩
  have R6 := Lib.hid (R5.out.below b6)
  have B6 := Lib.hid (B5.out.trans (b6.mono B5.out.size)); have HD6 := Lib.hid (HD5.out.below b6)
  clear b6 R5 B5 CR HD5
  by_cases hin : a < 0 ∨ (nx : Int) ≤ a
  · have cw := WO.out w6 d HN.out HD6.out a hin
    have CW := Lib.hid cw; clear cw WO WI
    go_wp2_with fail
    refine CW.out.mono ?_
    rintro e w7 ⟨rfl, b7⟩
    have hal : Hid (∀ o, Below w.heap.size w (w7.alloc o)) := Lib.hid (fun o => by have := B6.out.trans (b7.mono B6.out.size); exact this.alloc this.size o)
    clear b7 CW
    have hcs : (a < 0) ∨ (¬ a < 0 ∧ (nx : Int) ≤ a) := by omega
    cases pb
    · have e1 := HPE.out
      simp only [Bool.false_eq_true, if_false] at e1
      subst e1
      rcases hcs with h1 | ⟨h1, h2⟩
      · go_wp2
        go_ret
        exact ⟨rfl, hal.out _⟩
      · go_wp2
        go_ret
        exact ⟨rfl, hal.out _⟩
    · have e1 := HPE.out
      simp only [if_true] at e1
      subst e1
      rcases hcs with h1 | ⟨h1, h2⟩
      · go_wp2
        go_ret
        exact ⟨rfl, hal.out _⟩
      · go_wp2
        go_ret
        exact ⟨rfl, hal.out _⟩
  · have h1 : ¬ a < 0 := fun e => hin (.inl e)
    have h2 : ¬ (nx : Int) ≤ a := fun e => hin (.inr e)
    obtain ⟨i, hi⟩ : ∃ i : Nat, a = (i : Int) := ⟨a.toNat, by omega⟩
    subst hi
    obtain ⟨⟨x1, x2⟩, hx⟩ : ∃ x, X[i]? = some x := ⟨_, List.getElem?_eq_getElem (by rw [HNX.out]; omega)⟩
    have cw := WI.out w6 d HN.out HD6.out i _ hx
    simp only at cw
    have CW := Lib.hid cw; have HX := Lib.hid hx
    have i1 : (i : Int) < (nx : Int) := by omega
    clear cw WO WI hin hx
    go_wp2_with fail
    refine CW.out.mono ?_
    rintro e w7 ⟨rfl, b7⟩
    have hb7 := B6.out.trans (b7.mono B6.out.size)
    have hr8 := (R6.out.below b7).below (bel_one w7 (.cells #[.string x1, .int .i64 x2] 55))
    have hb8 : Below w.heap.size w (w7.alloc (.cells #[.string x1, .int .i64 x2] 55)) := hb7.alloc hb7.size _
    have hbx := bx_new w7 55 #[.string x1, .int .i64 x2]
    obtain ⟨B, hB⟩ : ∃ z, w7.heap.size = z := ⟨_, rfl⟩
    obtain ⟨w8, hw8⟩ : ∃ z, w7.alloc (.cells #[.string x1, .int .i64 x2] 55) = z := ⟨_, rfl⟩
    rw [hw8] at hr8 hb8 hbx
    rw [hB] at hbx
    obtain ⟨b, o, eA, hlt, hc⟩ := hr8.cells HNX.out (by omega)
    subst eA
    obtain ⟨g0, g1⟩ := wrd_cells hc HX.out
    simp only at g0 g1
    obtain ⟨k0, k1⟩ := hbx.two
    have HB8 := Lib.hid hb8; have HW8 := Lib.hid hw8; have HBB := Lib.hid hB
    clear b7 hb7 hr8 hb8 hbx hB hw8 hc hlt CW HX
    cases pb
    · have e1 := HPE.out
      simp only [Bool.false_eq_true, if_false] at e1
      subst e1
      go_wp2_with (rw [HW8.out, HBB.out])
      go_quiet (fail)
      go_wp2
      go_ret
      exact ⟨by first | rfl | exact ret_bool (by simp), HB8.out.trans ((bel_drewN _ _).mono HB8.out.size)⟩
    · have e1 := HPE.out
      simp only [if_true] at e1
      subst e1
      go_wp2_with (rw [HW8.out, HBB.out])
      go_quiet (fail)
      go_wp2
      go_ret
      exact ⟨by first | rfl | exact ret_bool (by simp), HB8.out.trans ((bel_drewN _ _).mono HB8.out.size)⟩
end Go.Proofs.YtnjhbblhlgpgdaaDoor

/- DawgWords under the second form's bound. -/
namespace Go.Proofs.YtnjhbblhlgpgdaaDoor
open Go.RowKit Go.Shelf
set_option linter.unusedSimpArgs false
set_option linter.unusedVariables false

theorem dawgWords_upto {H : Type} (u : Value) (l : List Wrd) (s : ByteArray) (a : Int) (w : World) (h : Okw w) (hu : WRuns w u l) {d : DataW H} (hd : (d = .nil ∧ l = []) ∨ ∃ sp, d = .slice (l.map wrdD) sp) (hk : Rows.uptoSmall H ([d, .lit (.string s.data.toList), .lit (.int .i64 a)] ++ []) = true) :
    Calls Tryd.prog 4 #[u, .string s, .int .i64 a] w (RetTrue w) := by
  have h' := of_decide_eq_true hk
  simp only [List.append_nil, Rows.uptoBulkAll, Rows.uptoBulk] at h'
  obtain ⟨h1, h2⟩ := words_bulk hd (by omega)
  exact dawgWords_walk u l s a w h hu h1 h2 (by rw [Lib.size_eq]; omega)
end Go.Proofs.YtnjhbblhlgpgdaaDoor

