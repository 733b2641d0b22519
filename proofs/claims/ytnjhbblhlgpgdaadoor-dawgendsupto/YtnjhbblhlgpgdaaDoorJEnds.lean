/- DawgEnds, walked over what dawg's functions answer. -/
import Derived.Test.YtnjhbblhlgpgdaaDoorPk19
import Derived.Test.YtnjhbblhlgpgdaaDoorXBeg
import Derived.Test.YtnjhbblhlgpgdaaDoorPk5
namespace Go.Proofs.YtnjhbblhlgpgdaaDoor
open Go.RowKit Go.Shelf
attribute [local go_sem] Oper.semAt_some
set_option linter.unusedSimpArgs false
set_option linter.unusedVariables false

theorem rnK_nil {s : ByteArray} (hv : Lib.validD s.data.toList = true) : rnK s = [] ↔ s.toList.isEmpty = true := by
  have h := enc_items s.data.toList hv
  rw [List.isEmpty_iff, Lib.toList_data]
  constructor
  · intro e
    have e2 : items s.data.toList = [] := e
    rw [e2] at h
    exact h.symm
  · intro e
    show items s.data.toList = []
    rw [e]; exact items_nil
theorem dec_runes {s : ByteArray} (hv : Lib.validD s.data.toList = true) : decErr s.data.toList = 0 ∧ decRunes s.data.toList = rnK s := by
  constructor
  · unfold decErr; rw [if_pos hv]
  · unfold decRunes; rw [if_pos hv]; rfl
theorem wlkB_true {W : Rst} {l : List Int} (h : l ∈ W) : wlkB W l = true := by
  refine decide_eq_true (.inr fun e => ?_)
  have : [] ∈ behP W l := place_ends.2 h
  rw [e] at this
  cases this
theorem idx_beh {W : Rst} {l : List Int} (h : l = [] ∨ behP W l ≠ []) : (staQ W)[(staQ W).idxOf (behP W l)]? = some (behP W l) := by
  rcases h with rfl | h
  · exact getElem?_idxOf' (staQ_mem W)
  · exact staQ_at h

set_option maxRecDepth 100000 in
set_option maxHeartbeats 64000000 in
theorem dawgEnds_walk (u : Value) (l : List Wrd) (s : ByteArray) (w : World) (h : Okw w) (hu : WRuns w u l) (hl : l.length ≤ 2000000) (hz : szW l) (hs : s.size ≤ 2000000) :
    Calls Tryd.prog 6 #[u, .string s] w (RetTrue w) := by
  have n1 := fun w hu => refNormal9_any u l w hu hl hz
  have hzn := szW_nor hz
  have hln := worS_len l
  have g1 := fun v w (hv : WRuns w v (worS l)) => great10_det v (worS l) w hv (fun b hb => by have := hzn b hb; omega)
  have d1 := fun v w hO (hv : WRuns w v (worS l)) => newd_any v (worS l) w hO hv (by omega) hzn
  have hwi : worE l = 0 → wisS (worS l) = 0 := fun e => wor_is e
  have dc := fun w (hO : Okw w) => decode_runs s w (by omega) hO.1 hO.2
  have bg := fun v w hO (hv : WRuns w v (worS l)) => xbegins_any v (worS l) s w hO hv (by omega) hzn
  have fd := fun v w hO (hv : WRuns w v (worS l)) => xfind_any v (worS l) s w hO hv (by omega) hzn
  have hsz4 : ∀ x ∈ worS l, x.1.size * 4 ≤ 140737488355328 := fun x hx => by have := hzn x hx; omega
  clear hz
  obtain ⟨gr, hgr⟩ : ∃ z, gr10 (worS l) = z := ⟨_, rfl⟩
  obtain ⟨ea, hea⟩ : ∃ z, worE l = z := ⟨_, rfl⟩
  obtain ⟨X, hX⟩ : ∃ z, worS l = z := ⟨_, rfl⟩
  simp only [hgr] at g1
  simp only [hea, hX] at n1
  rw [hea] at hwi
  simp only [hX] at g1 d1 hwi bg fd hln hsz4
  obtain ⟨nx, hnx⟩ : ∃ z, X.length = z := ⟨_, rfl⟩
  have hnb : nx ≤ 2000000 := by rw [← hnx]; omega
  have HU := Lib.hid hu; have G1 := Lib.hid g1; have N1 := Lib.hid n1; have D1 := Lib.hid d1; have HWI := Lib.hid hwi; have HNX := Lib.hid hnx; have DC := Lib.hid dc; have BG := Lib.hid bg; have FD0 := Lib.hid fd; have HS4 := Lib.hid hsz4
  clear hu g1 n1 d1 hwi hnx dc bg fd hgr hea hX hzn hln hl hsz4
  go_enter Tryd.func6, Tryd.ntmps6
  go_wp2_with fail
  refine (alive10_any _ h).mono ?_
  rintro e w1 ⟨rfl, b1⟩
  have U1 := Lib.hid (HU.out.below b1); have K1 : Hid (Okw w1) := Lib.hid (h.below b1)
  have B1 := Lib.hid b1; clear b1
  go_wp2_with fail
  refine (N1.out _ U1.out).mono ?_
  rintro e w2 ⟨va, rfl, ra, b2⟩
  obtain ⟨Aa, ka, ea2⟩ := ra.slice
  rw [HNX.out] at ea2
  subst ea2
  have K2 : Hid (Okw w2) := Lib.hid (K1.out.below b2)
  have R2 := Lib.hid ra
  have B2 := Lib.hid (B1.out.trans (b2.mono B1.out.size)); clear b2 ra U1 K1 B1
  go_wp2_with fail
  refine (G1.out _ _ R2.out).mono ?_
  rintro e w3 ⟨rfl, b3⟩
  have K3 : Hid (Okw w3) := Lib.hid (K2.out.below b3)
  have R3 := Lib.hid (R2.out.below b3)
  have B3 := Lib.hid (B2.out.trans (b3.mono B2.out.size)); clear b3 K2 B2 R2 G1 N1
  cases gr
  rotate_left
  · go_wp2
    go_ret
    exact ⟨rfl, B3.out⟩
  by_cases h0 : ea = 0
  rotate_left
  · have h0' : (ea == 0) = false := by simpa using h0
    have h0'' : (ea != 0) = true := by simpa using h0
    go_wp2
    all_goals (go_ret; exact ⟨rfl, B3.out⟩)
  subst h0
  have hn := HWI.out (by first | rfl | trivial)
  by_cases hs1 : 300 < s.size
  · have hs2 : (300 : Int) < (s.size : Int) := by omega
    clear hn
    go_wp2
    go_ret
    exact ⟨rfl, B3.out⟩
  have hs2 : ¬ (300 : Int) < (s.size : Int) := by omega
  have hri := rnW_rising hn
  have hk := dgOk hn
  have hcb := frB_of (wisS_facts hn).1
  obtain ⟨W, hW⟩ : ∃ z, rnW X = z := ⟨_, rfl⟩
  obtain ⟨Q, hQ⟩ : ∃ z, staQ W = z := ⟨_, rfl⟩
  have hmw : ∀ t : ByteArray, Lib.validD t.data.toList = true → (rnK t ∈ W ↔ ∃ b ∈ X, b.1 = t) := fun t ht => by rw [← hW]; exact mem_rnW hn ht
  have hbb : Lib.validD s.data.toList = true → (behP W (rnK s) ≠ [] ↔ 0 < bgN X s) := fun hv => by rw [← hW]; exact begins_beh hn hv
  have hvx : ∀ x1 x2, (x1, x2) ∈ X → Lib.validD x1.data.toList = true := fun x1 x2 hx => wchk_valid (wall_zero.1 (wisS_facts hn).1 _ hx)
  rw [hW] at hri hk
  rw [hQ] at hk
  have DEW := Lib.hid (fun x1 x2 (hx : (x1, x2) ∈ X) w (hO : Okw w) => (show Calls Tryd.prog 31 #[.string x1] w fun e w' => ∃ A c, e = .returned (.tuple #[.slice A (rnK x1).length c, .int .i64 0]) ∧ Runs w' (.slice A (rnK x1).length c) (rnK x1) ∧ Below w.heap.size w w' from by
    have c := decode_runs x1 w (HS4.out _ hx) hO.1 hO.2
    obtain ⟨e1, e2⟩ := dec_runes (hvx x1 x2 hx)
    rw [e1, e2] at c
    exact c))
  have hmem : ∀ x1 x2, (x1, x2) ∈ X → rnK x1 ∈ W := fun x1 x2 hx => (hmw x1 (hvx x1 x2 hx)).2 ⟨_, hx, rfl⟩
  have hlen64 : ∀ y ∈ W, y.length ≤ 2000000 := fun y hy => by have := (rnW_facts hn y (by rw [hW]; exact hy)).2.1; omega
  have WKW := Lib.hid (fun x1 x2 (hx : (x1, x2) ∈ X) w {d : Nat} (hd : DgAt w d Q X) v (hv : Runs w v (rnK x1)) => (show Calls Tryd.prog 32 #[.pointer (some ⟨d, 0, none⟩), v] w fun e w' => e = .returned (.tuple #[.int .i64 (Q.idxOf (behP W (rnK x1)) : Int), .bool true]) ∧ Below w.heap.size w w' from by
    have c := walkd_any w d X W hri Q hQ hd hk v (rnK x1) hv (hlen64 _ (hmem x1 x2 hx))
    have e1 := wlkB_true (hmem x1 x2 hx)
    unfold wlkV at c
    rw [e1, if_pos rfl] at c
    exact c))
  have ENW := Lib.hid (fun x1 x2 (hx : (x1, x2) ∈ X) w {d : Nat} (hd : DgAt w d Q X) => (show Calls Tryd.prog 20 #[.pointer (some ⟨d, 0, none⟩), .int .i64 (Q.idxOf (behP W (rnK x1)) : Int)] w fun e w' => e = .returned (.tuple #[.bool true, .int .i64 0]) ∧ Below w.heap.size w w' from by
    have hm := hmem x1 x2 hx
    have hin : [] ∈ behP W (rnK x1) := place_ends.2 hm
    have c := ends_in w d Q X hd hk _ _ (by have := idx_beh (W := W) (l := rnK x1) (.inr (fun e => by rw [e] at hin; cases hin)); rwa [hQ] at this)
    rw [decide_eq_true hin] at c
    exact c))
  have cn : ∀ w, Okw w → WRuns w (.slice Aa nx ka) X → Calls Tryd.prog 12 #[.slice Aa nx ka] w fun e w' => ∃ d, e = .returned (.tuple #[.pointer (some ⟨d, 0, none⟩), .int .i64 0]) ∧ DgAt w' d Q X ∧ Below w.heap.size w w' := fun w hO hv => (D1.out _ w hO hv).mono (by
    rintro e w' ⟨hb, hp⟩
    rcases hp with ⟨hne, _⟩ | ⟨_, d, e1, hd⟩
    · exact absurd hn hne
    · rw [hW, hQ] at hd
      exact ⟨d, e1, hd, hb⟩)
  have CN := Lib.hid (cn w3 K3.out R3.out)
  have HRI := Lib.hid hri; have HKO := Lib.hid hk; have HQ := Lib.hid hQ; have HMW := Lib.hid hmw; have HBB := Lib.hid hbb; have HCB := Lib.hid hcb; have HNN := Lib.hid hn
  clear cn hri hk hQ hW hmw hbb hcb hvx hmem hlen64 hn D1 HWI
  go_wp2_with fail
  refine CN.out.mono ?_
  rintro e w4 ⟨d, rfl, hd, b4⟩
  have K4 : Hid (Okw w4) := Lib.hid (K3.out.below b4); have R4 := Lib.hid (R3.out.below b4)
  have B4 := Lib.hid (B3.out.trans (b4.mono B3.out.size)); have HD4 := Lib.hid hd
  clear b4 hd K3 R3 B3 CN
  cases hv : Lib.validD s.data.toList
  · have c5 := DC.out w4 K4.out
    have e1 : decErr s.data.toList = 3 := by simp [decErr, hv]
    rw [e1] at c5
    have C5 := Lib.hid c5
    clear c5 e1 hv DC HMW HBB
    go_wp2_with fail
    refine C5.out.mono ?_
    rintro e w5 ⟨A5, c5', rfl, hr5, b5⟩
    have B5 := Lib.hid (B4.out.trans (b5.mono B4.out.size))
    clear b5 hr5
    go_wp2
    go_ret
    exact ⟨rfl, B5.out⟩
  · obtain ⟨e1, e2⟩ := dec_runes hv
    have c5 := DC.out w4 K4.out
    rw [e1, e2] at c5
    have C5 := Lib.hid c5
    have hgb : wlkB W (rnK s) = (decide (0 < bgN X s) || s.toList.isEmpty) := by
      rw [Bool.eq_iff_iff, Bool.or_eq_true]
      unfold wlkB
      rw [decide_eq_true_iff, decide_eq_true_iff, rnK_nil hv, HBB.out hv]
      exact Or.comm
    have hfe : wfE X s = if decide (rnK s ∈ W) = true then 0 else 10 := by
      unfold wfE
      rw [if_pos HNN.out]
      by_cases hm : rnK s ∈ W
      · rw [decide_eq_true hm, if_pos rfl, if_neg]
        intro e
        obtain ⟨b, hb, e3⟩ := (HMW.out s hv).1 hm
        exact (frq_zero HCB.out).1 e b hb e3
      · rw [decide_eq_false hm, if_neg Bool.false_ne_true, if_pos]
        exact (frq_zero HCB.out).2 (fun b hb e3 => hm ((HMW.out s hv).2 ⟨b, hb, e3⟩))
    have hmg : rnK s ∈ W → wlkB W (rnK s) = true := fun hm => wlkB_true hm
    have hbf : wbgF X s = (bgF X s : Int) ∧ wbgT X s = (bgF X s : Int) + (bgN X s : Int) := by unfold wbgF wbgT; rw [if_pos HNN.out, if_pos HNN.out]; exact ⟨rfl, rfl⟩
    have hlx : (rnK s).length ≤ 2000000 := by
      have := items_le s.data.toList
      rw [← Lib.size_eq] at this
      show (items s.data.toList).length ≤ _
      omega
    have cw := fun w' (hd : DgAt w' d Q X) v hv => walkd_any w' d X W HRI.out Q HQ.out hd HKO.out v (rnK s) hv hlx
    have hendp : wlkB W (rnK s) = true → ∀ w', DgAt w' d Q X → Calls Tryd.prog 20 #[.pointer (some ⟨d, 0, none⟩), .int .i64 (wlkV Q W (rnK s) : Int)] w' fun e w'' => e = .returned (.tuple #[.bool (decide (rnK s ∈ W)), .int .i64 0]) ∧ Below w'.heap.size w' w'' := fun hg w' hd => by
      have hq := idx_beh (W := W) (l := rnK s) (of_decide_eq_true hg)
      rw [HQ.out] at hq
      have c := ends_in w' d Q X hd HKO.out _ _ hq
      have e4 : decide ([] ∈ behP W (rnK s)) = decide (rnK s ∈ W) := decide_eq_decide.2 place_ends
      rw [e4] at c
      unfold wlkV
      rw [if_pos hg]
      exact c
    have bg5 := fun w' (hO : Okw w') hv => BG.out (.slice Aa nx ka) w' hO hv
    rw [hbf.1, hbf.2, HNN.out] at bg5
    obtain ⟨go_, hgo⟩ : ∃ z, wlkB W (rnK s) = z := ⟨_, rfl⟩
    obtain ⟨av, hav⟩ : ∃ z, wlkV Q W (rnK s) = z := ⟨_, rfl⟩
    obtain ⟨en, hen⟩ : ∃ z, decide (rnK s ∈ W) = z := ⟨_, rfl⟩
    obtain ⟨fe, hfe'⟩ : ∃ z, wfE X s = z := ⟨_, rfl⟩
    obtain ⟨bf, hbf'⟩ : ∃ z, (bgF X s : Int) = z := ⟨_, rfl⟩
    obtain ⟨bn, hbn⟩ : ∃ z, bgN X s = z := ⟨_, rfl⟩
    simp only [hav, hgo] at cw
    rw [hgo] at hgb hmg
    simp only [hgo, hav, hen] at hendp
    rw [hfe', hen] at hfe
    rw [hbf', hbn] at bg5
    rw [hbn] at hgb
    have FD := Lib.hid (fun v w hO hv => (show Calls Tryd.prog 34 #[v, .string s] w fun e w' => e = .returned (.tuple #[.int .i64 (wfS X s), .int .i64 fe]) ∧ Below w.heap.size w w' from by have := FD0.out v w hO hv; rwa [hfe'] at this))
    have FE1 : Hid (go_ = true → (en = true ∧ fe = 0) ∨ (en = false ∧ fe = 10)) := Lib.hid (fun _ => by
      cases en
      · exact .inr ⟨rfl, by rw [hfe]; rfl⟩
      · exact .inl ⟨rfl, by rw [hfe]; rfl⟩)
    have FE0 : Hid (go_ = false → fe = 10) := Lib.hid (fun e => by
      cases en
      · rw [hfe]; rfl
      · have := hmg (of_decide_eq_true hen)
        rw [e] at this; cases this)
    have EN1 := Lib.hid hendp; have CW := Lib.hid cw; have BG5 := Lib.hid bg5; have HGB := Lib.hid hgb
    clear c5 e1 e2 hv hgb hfe hmg hbf hlx cw hendp bg5 hgo hav hen hfe' hbf' hbn DC BG FD0 HMW HBB HCB
    go_wp2_with fail
    refine C5.out.mono ?_
    rintro e w5 ⟨A5, c5', rfl, hr5, b5⟩
    have K5 : Hid (Okw w5) := Lib.hid (K4.out.below b5); have R5 := Lib.hid (R4.out.below b5); have HR5 := Lib.hid hr5
    have B5 := Lib.hid (B4.out.trans (b5.mono B4.out.size)); have HD5 := Lib.hid (HD4.out.below b5)
    clear b5 hr5 K4 R4 B4 HD4 C5
    go_wp2_with fail
    refine (CW.out w5 HD5.out _ HR5.out).mono ?_
    rintro e w6 ⟨rfl, b6⟩
    have K6 : Hid (Okw w6) := Lib.hid (K5.out.below b6); have R6 := Lib.hid (R5.out.below b6)
    have B6 := Lib.hid (B5.out.trans (b6.mono B5.out.size)); have HD6 := Lib.hid (HD5.out.below b6)
    clear b6 K5 R5 B5 HD5 CW HR5
    go_wp2_with fail
    refine (BG5.out w6 K6.out R6.out).mono ?_
    rintro e w7 ⟨rfl, b7⟩
    have K7 : Hid (Okw w7) := Lib.hid (K6.out.below b7); have R7 := Lib.hid (R6.out.below b7)
    have B7 := Lib.hid (B6.out.trans (b7.mono B6.out.size)); have HD7 := Lib.hid (HD6.out.below b7)
    clear b7 K6 R6 B6 HD6 BG5
    by_cases hb0 : 0 < bn
    · have k1 : bf < bf + (bn : Int) := by omega
      have hgt : go_ = true := by rw [HGB.out, decide_eq_true hb0]; rfl
      subst hgt
      go_wp2_with fail
      refine (FD.out _ w7 K7.out R7.out).mono ?_
      rintro e w8 ⟨rfl, b8⟩
      have K8 : Hid (Okw w8) := Lib.hid (K7.out.below b8); have R8 := Lib.hid (R7.out.below b8)
      have B8 := Lib.hid (B7.out.trans (b8.mono B7.out.size)); have HD8 := Lib.hid (HD7.out.below b8)
      clear b8 K7 R7 B7 HD7 FD
      have ce := EN1.out (by first | rfl | trivial) w8 HD8.out
      obtain hfe := FE1.out (by first | rfl | trivial)
      have CE := Lib.hid ce
      clear ce EN1 FE0 FE1
      go_wp2_with fail
      refine CE.out.mono ?_
      rintro e w9 ⟨rfl, b9⟩
      have K9 : Hid (Okw w9) := Lib.hid (K8.out.below b9); have R9 := Lib.hid (R8.out.below b9)
      have B9 := Lib.hid (B8.out.trans (b9.mono B8.out.size)); have HD9 := Lib.hid (HD8.out.below b9)
      clear b9 K8 R8 B8 HD8 CE
      rcases hfe with ⟨rfl, rfl⟩ | ⟨rfl, rfl⟩
      · go_wp2
        go_loopw [103] (fun s103 wr => ∃ j : Nat, s103 = .int .i64 (j : Int) ∧ j ≤ nx ∧ Hid (Below w.heap.size w wr) ∧ Hid (Below w9.heap.size w9 wr)) (fun s103 _ => nx - (RowKit.intOf s103).toNat)
        case atStart => exact ⟨0, rfl, Nat.zero_le _, B9, Lib.hid (Below.refl _ _)⟩
        case round =>
          obtain ⟨j, rfl, hjn, HB, HBB⟩ := hrel
          by_cases hj : j < nx
          · obtain ⟨⟨x1, x2⟩, hx⟩ : ∃ x, X[j]? = some x := ⟨_, List.getElem?_eq_getElem (by rw [HNX.out]; exact hj)⟩
            obtain ⟨b, o, rfl, _, hc⟩ := (R9.out.below HBB.out).cells HNX.out (by omega)
            obtain ⟨g0, g1⟩ := wrd_cells hc hx
            simp only at g0 g1
            have i1 : (j : Int) < (nx : Int) := by omega
            have hal : Hid (∀ o : Obj, Below wr.heap.size wr (wr.alloc o)) := Lib.hid (fun o => bel_one wr o)
            have cd := fun w' (hb : Below wr.heap.size wr w') => DEW.out x1 x2 (List.mem_of_getElem? hx) w' ((K9.out.below HBB.out).below hb)
            have cwk := fun w' (hb : Below wr.heap.size wr w') v hv => WKW.out x1 x2 (List.mem_of_getElem? hx) w' ((HD9.out.below HBB.out).below hb) v hv
            have cen := fun w' (hb : Below wr.heap.size wr w') => ENW.out x1 x2 (List.mem_of_getElem? hx) w' ((HD9.out.below HBB.out).below hb)
            obtain ⟨wv, hwv⟩ : ∃ z, Q.idxOf (behP W (rnK x1)) = z := ⟨_, rfl⟩
            simp only [hwv] at cwk cen
            have CD := Lib.hid cd; have CWK := Lib.hid cwk; have CEN := Lib.hid cen
            clear hc hx cd cwk cen hwv
            go_wp2_with fail
            refine (CD.out _ (hal.out _)).mono ?_
            rintro e w11 ⟨A1, c1, rfl, hr1, b11⟩
            have h11 := Lib.hid ((hal.out _).trans (b11.mono (hal.out _).size))
            have HR1 := Lib.hid hr1
            clear b11 hr1 CD
            go_wp2_with fail
            refine (CWK.out _ h11.out _ HR1.out).mono ?_
            rintro e w12 ⟨rfl, b12⟩
            have h12 := Lib.hid (h11.out.trans (b12.mono h11.out.size))
            clear b12 CWK
            go_wp2_with fail
            refine (CEN.out _ h12.out).mono ?_
            rintro e w13 ⟨rfl, b13⟩
            have h13 := h12.out.trans (b13.mono h12.out.size)
            have hf1 := Lib.hid (HB.out.trans (h13.mono HB.out.size)); have hf2 := Lib.hid (HBB.out.trans (h13.mono HBB.out.size))
            clear b13 h13 CEN
            go_wp2
            exact ⟨⟨j + 1, by go_num, by omega, hf1, hf2⟩, by simp [RowKit.intOf]; omega⟩
          · obtain rfl : j = nx := by omega
            have i1 : ¬ (j : Int) < (j : Int) := by omega
            go_wp2
            go_ret
            exact ⟨rfl, HB.out⟩
      · go_wp2
        go_loopw [103] (fun s103 wr => ∃ j : Nat, s103 = .int .i64 (j : Int) ∧ j ≤ nx ∧ Hid (Below w.heap.size w wr) ∧ Hid (Below w9.heap.size w9 wr)) (fun s103 _ => nx - (RowKit.intOf s103).toNat)
        case atStart => exact ⟨0, rfl, Nat.zero_le _, B9, Lib.hid (Below.refl _ _)⟩
        case round =>
          obtain ⟨j, rfl, hjn, HB, HBB⟩ := hrel
          by_cases hj : j < nx
          · obtain ⟨⟨x1, x2⟩, hx⟩ : ∃ x, X[j]? = some x := ⟨_, List.getElem?_eq_getElem (by rw [HNX.out]; exact hj)⟩
            obtain ⟨b, o, rfl, _, hc⟩ := (R9.out.below HBB.out).cells HNX.out (by omega)
            obtain ⟨g0, g1⟩ := wrd_cells hc hx
            simp only at g0 g1
            have i1 : (j : Int) < (nx : Int) := by omega
            have hal : Hid (∀ o : Obj, Below wr.heap.size wr (wr.alloc o)) := Lib.hid (fun o => bel_one wr o)
            have cd := fun w' (hb : Below wr.heap.size wr w') => DEW.out x1 x2 (List.mem_of_getElem? hx) w' ((K9.out.below HBB.out).below hb)
            have cwk := fun w' (hb : Below wr.heap.size wr w') v hv => WKW.out x1 x2 (List.mem_of_getElem? hx) w' ((HD9.out.below HBB.out).below hb) v hv
            have cen := fun w' (hb : Below wr.heap.size wr w') => ENW.out x1 x2 (List.mem_of_getElem? hx) w' ((HD9.out.below HBB.out).below hb)
            obtain ⟨wv, hwv⟩ : ∃ z, Q.idxOf (behP W (rnK x1)) = z := ⟨_, rfl⟩
            simp only [hwv] at cwk cen
            have CD := Lib.hid cd; have CWK := Lib.hid cwk; have CEN := Lib.hid cen
            clear hc hx cd cwk cen hwv
            go_wp2_with fail
            refine (CD.out _ (hal.out _)).mono ?_
            rintro e w11 ⟨A1, c1, rfl, hr1, b11⟩
            have h11 := Lib.hid ((hal.out _).trans (b11.mono (hal.out _).size))
            have HR1 := Lib.hid hr1
            clear b11 hr1 CD
            go_wp2_with fail
            refine (CWK.out _ h11.out _ HR1.out).mono ?_
            rintro e w12 ⟨rfl, b12⟩
            have h12 := Lib.hid (h11.out.trans (b12.mono h11.out.size))
            clear b12 CWK
            go_wp2_with fail
            refine (CEN.out _ h12.out).mono ?_
            rintro e w13 ⟨rfl, b13⟩
            have h13 := h12.out.trans (b13.mono h12.out.size)
            have hf1 := Lib.hid (HB.out.trans (h13.mono HB.out.size)); have hf2 := Lib.hid (HBB.out.trans (h13.mono HBB.out.size))
            clear b13 h13 CEN
            go_wp2
            exact ⟨⟨j + 1, by go_num, by omega, hf1, hf2⟩, by simp [RowKit.intOf]; omega⟩
          · obtain rfl : j = nx := by omega
            have i1 : ¬ (j : Int) < (j : Int) := by omega
            go_wp2
            go_ret
            exact ⟨rfl, HB.out⟩
    · have hbn0 : bn = 0 := by omega
      subst hbn0
      have k1 : ¬ bf < bf + ((0 : Nat) : Int) := by omega
      have k2 : ¬ bf < bf := by omega
      cases hes : s.toList.isEmpty
      · have hgt : go_ = false := by rw [HGB.out, hes]; rfl
        subst hgt
        go_wp2_with fail
        refine (FD.out _ w7 K7.out R7.out).mono ?_
        rintro e w9 ⟨rfl, b9⟩
        have K9 : Hid (Okw w9) := Lib.hid (K7.out.below b9); have R9 := Lib.hid (R7.out.below b9)
        have B9 := Lib.hid (B7.out.trans (b9.mono B7.out.size)); have HD9 := Lib.hid (HD7.out.below b9)
        clear b9 K7 R7 B7 HD7 FD
        obtain rfl := FE0.out (by first | rfl | trivial)
        clear FE0 FE1 EN1
        go_wp2
        go_loopw [103] (fun s103 wr => ∃ j : Nat, s103 = .int .i64 (j : Int) ∧ j ≤ nx ∧ Hid (Below w.heap.size w wr) ∧ Hid (Below w9.heap.size w9 wr)) (fun s103 _ => nx - (RowKit.intOf s103).toNat)
        case atStart => exact ⟨0, rfl, Nat.zero_le _, B9, Lib.hid (Below.refl _ _)⟩
        case round =>
          obtain ⟨j, rfl, hjn, HB, HBB⟩ := hrel
          by_cases hj : j < nx
          · obtain ⟨⟨x1, x2⟩, hx⟩ : ∃ x, X[j]? = some x := ⟨_, List.getElem?_eq_getElem (by rw [HNX.out]; exact hj)⟩
            obtain ⟨b, o, rfl, _, hc⟩ := (R9.out.below HBB.out).cells HNX.out (by omega)
            obtain ⟨g0, g1⟩ := wrd_cells hc hx
            simp only at g0 g1
            have i1 : (j : Int) < (nx : Int) := by omega
            have hal : Hid (∀ o : Obj, Below wr.heap.size wr (wr.alloc o)) := Lib.hid (fun o => bel_one wr o)
            have cd := fun w' (hb : Below wr.heap.size wr w') => DEW.out x1 x2 (List.mem_of_getElem? hx) w' ((K9.out.below HBB.out).below hb)
            have cwk := fun w' (hb : Below wr.heap.size wr w') v hv => WKW.out x1 x2 (List.mem_of_getElem? hx) w' ((HD9.out.below HBB.out).below hb) v hv
            have cen := fun w' (hb : Below wr.heap.size wr w') => ENW.out x1 x2 (List.mem_of_getElem? hx) w' ((HD9.out.below HBB.out).below hb)
            obtain ⟨wv, hwv⟩ : ∃ z, Q.idxOf (behP W (rnK x1)) = z := ⟨_, rfl⟩
            simp only [hwv] at cwk cen
            have CD := Lib.hid cd; have CWK := Lib.hid cwk; have CEN := Lib.hid cen
            clear hc hx cd cwk cen hwv
            go_wp2_with fail
            refine (CD.out _ (hal.out _)).mono ?_
            rintro e w11 ⟨A1, c1, rfl, hr1, b11⟩
            have h11 := Lib.hid ((hal.out _).trans (b11.mono (hal.out _).size))
            have HR1 := Lib.hid hr1
            clear b11 hr1 CD
            go_wp2_with fail
            refine (CWK.out _ h11.out _ HR1.out).mono ?_
            rintro e w12 ⟨rfl, b12⟩
            have h12 := Lib.hid (h11.out.trans (b12.mono h11.out.size))
            clear b12 CWK
            go_wp2_with fail
            refine (CEN.out _ h12.out).mono ?_
            rintro e w13 ⟨rfl, b13⟩
            have h13 := h12.out.trans (b13.mono h12.out.size)
            have hf1 := Lib.hid (HB.out.trans (h13.mono HB.out.size)); have hf2 := Lib.hid (HBB.out.trans (h13.mono HBB.out.size))
            clear b13 h13 CEN
            go_wp2
            exact ⟨⟨j + 1, by go_num, by omega, hf1, hf2⟩, by simp [RowKit.intOf]; omega⟩
          · obtain rfl : j = nx := by omega
            have i1 : ¬ (j : Int) < (j : Int) := by omega
            go_wp2
            go_ret
            exact ⟨rfl, HB.out⟩
      · have hgt : go_ = true := by rw [HGB.out, hes]; rfl
        subst hgt
        go_wp2_with fail
        refine (FD.out _ w7 K7.out R7.out).mono ?_
        rintro e w8 ⟨rfl, b8⟩
        have K8 : Hid (Okw w8) := Lib.hid (K7.out.below b8); have R8 := Lib.hid (R7.out.below b8)
        have B8 := Lib.hid (B7.out.trans (b8.mono B7.out.size)); have HD8 := Lib.hid (HD7.out.below b8)
        clear b8 K7 R7 B7 HD7 FD
        have ce := EN1.out (by first | rfl | trivial) w8 HD8.out
        obtain hfe := FE1.out (by first | rfl | trivial)
        have CE := Lib.hid ce
        clear ce EN1 FE0 FE1
        go_wp2_with fail
        refine CE.out.mono ?_
        rintro e w9 ⟨rfl, b9⟩
        have K9 : Hid (Okw w9) := Lib.hid (K8.out.below b9); have R9 := Lib.hid (R8.out.below b9)
        have B9 := Lib.hid (B8.out.trans (b9.mono B8.out.size)); have HD9 := Lib.hid (HD8.out.below b9)
        clear b9 K8 R8 B8 HD8 CE
        rcases hfe with ⟨rfl, rfl⟩ | ⟨rfl, rfl⟩
        · go_wp2
          go_loopw [103] (fun s103 wr => ∃ j : Nat, s103 = .int .i64 (j : Int) ∧ j ≤ nx ∧ Hid (Below w.heap.size w wr) ∧ Hid (Below w9.heap.size w9 wr)) (fun s103 _ => nx - (RowKit.intOf s103).toNat)
          case atStart => exact ⟨0, rfl, Nat.zero_le _, B9, Lib.hid (Below.refl _ _)⟩
          case round =>
            obtain ⟨j, rfl, hjn, HB, HBB⟩ := hrel
            by_cases hj : j < nx
            · obtain ⟨⟨x1, x2⟩, hx⟩ : ∃ x, X[j]? = some x := ⟨_, List.getElem?_eq_getElem (by rw [HNX.out]; exact hj)⟩
              obtain ⟨b, o, rfl, _, hc⟩ := (R9.out.below HBB.out).cells HNX.out (by omega)
              obtain ⟨g0, g1⟩ := wrd_cells hc hx
              simp only at g0 g1
              have i1 : (j : Int) < (nx : Int) := by omega
              have hal : Hid (∀ o : Obj, Below wr.heap.size wr (wr.alloc o)) := Lib.hid (fun o => bel_one wr o)
              have cd := fun w' (hb : Below wr.heap.size wr w') => DEW.out x1 x2 (List.mem_of_getElem? hx) w' ((K9.out.below HBB.out).below hb)
              have cwk := fun w' (hb : Below wr.heap.size wr w') v hv => WKW.out x1 x2 (List.mem_of_getElem? hx) w' ((HD9.out.below HBB.out).below hb) v hv
              have cen := fun w' (hb : Below wr.heap.size wr w') => ENW.out x1 x2 (List.mem_of_getElem? hx) w' ((HD9.out.below HBB.out).below hb)
              obtain ⟨wv, hwv⟩ : ∃ z, Q.idxOf (behP W (rnK x1)) = z := ⟨_, rfl⟩
              simp only [hwv] at cwk cen
              have CD := Lib.hid cd; have CWK := Lib.hid cwk; have CEN := Lib.hid cen
              clear hc hx cd cwk cen hwv
              go_wp2_with fail
              refine (CD.out _ (hal.out _)).mono ?_
              rintro e w11 ⟨A1, c1, rfl, hr1, b11⟩
              have h11 := Lib.hid ((hal.out _).trans (b11.mono (hal.out _).size))
              have HR1 := Lib.hid hr1
              clear b11 hr1 CD
              go_wp2_with fail
              refine (CWK.out _ h11.out _ HR1.out).mono ?_
              rintro e w12 ⟨rfl, b12⟩
              have h12 := Lib.hid (h11.out.trans (b12.mono h11.out.size))
              clear b12 CWK
              go_wp2_with fail
              refine (CEN.out _ h12.out).mono ?_
              rintro e w13 ⟨rfl, b13⟩
              have h13 := h12.out.trans (b13.mono h12.out.size)
              have hf1 := Lib.hid (HB.out.trans (h13.mono HB.out.size)); have hf2 := Lib.hid (HBB.out.trans (h13.mono HBB.out.size))
              clear b13 h13 CEN
              go_wp2
              exact ⟨⟨j + 1, by go_num, by omega, hf1, hf2⟩, by simp [RowKit.intOf]; omega⟩
            · obtain rfl : j = nx := by omega
              have i1 : ¬ (j : Int) < (j : Int) := by omega
              go_wp2
              go_ret
              exact ⟨rfl, HB.out⟩
        · go_wp2
          go_loopw [103] (fun s103 wr => ∃ j : Nat, s103 = .int .i64 (j : Int) ∧ j ≤ nx ∧ Hid (Below w.heap.size w wr) ∧ Hid (Below w9.heap.size w9 wr)) (fun s103 _ => nx - (RowKit.intOf s103).toNat)
          case atStart => exact ⟨0, rfl, Nat.zero_le _, B9, Lib.hid (Below.refl _ _)⟩
          case round =>
            obtain ⟨j, rfl, hjn, HB, HBB⟩ := hrel
            by_cases hj : j < nx
            · obtain ⟨⟨x1, x2⟩, hx⟩ : ∃ x, X[j]? = some x := ⟨_, List.getElem?_eq_getElem (by rw [HNX.out]; exact hj)⟩
              obtain ⟨b, o, rfl, _, hc⟩ := (R9.out.below HBB.out).cells HNX.out (by omega)
              obtain ⟨g0, g1⟩ := wrd_cells hc hx
              simp only at g0 g1
              have i1 : (j : Int) < (nx : Int) := by omega
              have hal : Hid (∀ o : Obj, Below wr.heap.size wr (wr.alloc o)) := Lib.hid (fun o => bel_one wr o)
              have cd := fun w' (hb : Below wr.heap.size wr w') => DEW.out x1 x2 (List.mem_of_getElem? hx) w' ((K9.out.below HBB.out).below hb)
              have cwk := fun w' (hb : Below wr.heap.size wr w') v hv => WKW.out x1 x2 (List.mem_of_getElem? hx) w' ((HD9.out.below HBB.out).below hb) v hv
              have cen := fun w' (hb : Below wr.heap.size wr w') => ENW.out x1 x2 (List.mem_of_getElem? hx) w' ((HD9.out.below HBB.out).below hb)
              obtain ⟨wv, hwv⟩ : ∃ z, Q.idxOf (behP W (rnK x1)) = z := ⟨_, rfl⟩
              simp only [hwv] at cwk cen
              have CD := Lib.hid cd; have CWK := Lib.hid cwk; have CEN := Lib.hid cen
              clear hc hx cd cwk cen hwv
              go_wp2_with fail
              refine (CD.out _ (hal.out _)).mono ?_
              rintro e w11 ⟨A1, c1, rfl, hr1, b11⟩
              have h11 := Lib.hid ((hal.out _).trans (b11.mono (hal.out _).size))
              have HR1 := Lib.hid hr1
              clear b11 hr1 CD
              go_wp2_with fail
              refine (CWK.out _ h11.out _ HR1.out).mono ?_
              rintro e w12 ⟨rfl, b12⟩
              have h12 := Lib.hid (h11.out.trans (b12.mono h11.out.size))
              clear b12 CWK
              go_wp2_with fail
              refine (CEN.out _ h12.out).mono ?_
              rintro e w13 ⟨rfl, b13⟩
              have h13 := h12.out.trans (b13.mono h12.out.size)
              have hf1 := Lib.hid (HB.out.trans (h13.mono HB.out.size)); have hf2 := Lib.hid (HBB.out.trans (h13.mono HBB.out.size))
              clear b13 h13 CEN
              go_wp2
              exact ⟨⟨j + 1, by go_num, by omega, hf1, hf2⟩, by simp [RowKit.intOf]; omega⟩
            · obtain rfl : j = nx := by omega
              have i1 : ¬ (j : Int) < (j : Int) := by omega
              go_wp2
              go_ret
              exact ⟨rfl, HB.out⟩
end Go.Proofs.YtnjhbblhlgpgdaaDoor
