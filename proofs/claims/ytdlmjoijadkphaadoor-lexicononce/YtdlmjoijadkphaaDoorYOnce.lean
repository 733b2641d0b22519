/- LexiconOnce, walked over what lexicon's functions answer. -/
import Derived.Test.YtdlmjoijadkphaaDoorPk7
namespace Go.Proofs.YtdlmjoijadkphaaDoor
open Go.RowKit Go.Shelf
set_option linter.unusedSimpArgs false
set_option linter.unusedVariables false

/-- What is known behind the appends. -/
structure OnW (W : World) (v : Value) (Y : List Wrd) (W' : World) : Prop where
  own : W'.ownsRow W.heap.size 24 2 v Y.length (gCells wrdCell Y)
  bel : Below W.heap.size W W'
theorem OnW.one {W W' : World} {v v' : Value} {ys : List Wrd} {o : Obj} (hv : ∀ b, v.ownBlock = some b → W.heap.size ≤ b)
    (h1 : W'.ownsRow W.heap.size 24 2 v' (0 + ys.length) ([] ++ gCells wrdCell ys)) (h2 : (W.drew.alloc o).grownBy W' v.ownBlock) : OnW W v' ys W' :=
  ⟨by simpa using h1, ((Below.refl W.heap.size W).drew.alloc (Nat.le_refl _) o).grown h2 (by simp) hv⟩
theorem OnW.two {W W' W'' : World} {v v' : Value} {xs ys : List Wrd} (h : OnW W v xs W')
    (h1 : W''.ownsRow W.heap.size 24 2 v' (xs.length + ys.length) (gCells wrdCell xs ++ gCells wrdCell ys)) (h2 : W'.grownBy W'' v.ownBlock) : OnW W v' (xs ++ ys) W'' :=
  ⟨by rw [List.length_append, gCells_append]; exact h1, h.bel.grown h2 h.bel.size (fun k hk => (h.own.lt k hk).1)⟩

set_option maxRecDepth 100000 in
set_option maxHeartbeats 32000000 in
theorem lexiconOnce_walk (u : Value) (l : List Wrd) (a : Nat) (ha : a < 65536) (w : World) (h : Okw w) (hu : WRuns w u l) (hz : szMW l) :
    Calls Tryd.prog 5 #[u, .int .u16 (a : Int)] w (RetTrue w) := by
  have g1 := fun w hu => great9_det u l w hu hz
  have t1 := fun (hg : grW l = false) w hO hu => xnormal_any u l w hO hu (by have := (grW_no hg).1; omega) (grW_no hg).2
  have t0 := fun (hg : grW l = false) w hO hu => xis_any u l w hO hu (by have := (grW_no hg).1; omega) (grW_no hg).2
  have hcap : ∃ A c, u = .slice A l.length c ∧ l.length ≤ c ∧ c ≤ maxLen ∧ (A = none → c = 0) := by
    obtain ⟨A, c, e, h1, h2, _⟩ := hu
    exact ⟨A, c, e, h1, h2.1, h2.2⟩
  obtain ⟨A, c, e, hc1, hc2, hc3⟩ := hcap
  subst e
  obtain ⟨k, hk⟩ : ∃ k, a % (l.length + 1) = k := ⟨_, rfl⟩
  have hkl : k ≤ l.length := by rw [← hk]; exact Nat.lt_succ_iff.1 (Nat.mod_lt _ (by omega))
  have t2 := fun (hg : grW l = false) x w hO hx => xnormal_any x (l.drop k ++ l.take k) w hO hx (by have := (grW_no hg).1; simp; omega) (fun z hz => by rcases List.mem_append.1 hz with h | h; exact (grW_no hg).2 z (List.mem_of_mem_drop h); exact (grW_no hg).2 z (List.mem_of_mem_take h))
  have hsw := wor_swap (l.take k) (l.drop k)
  rw [List.take_append_drop] at hsw
  have t3 := fun (hg : grW l = false) x w hO hx => xnormal_any x (worS l) w hO hx (by have := (grW_no hg).1; have := worS_len l; omega) (szW_nor (grW_no hg).2)
  have t4 := fun (hg : grW l = false) x w hO hx => xis_any x (worS l) w hO hx (by have := (grW_no hg).1; have := worS_len l; omega) (szW_nor (grW_no hg).2)
  have f0 : worE l ≠ 0 → worS l = [] ∧ wisS l ≠ 0 := wor_no
  have f1 : worE l = 0 → wisS (worS l) = 0 ∧ worE (worS l) = 0 ∧ worS (worS l) = worS l := fun h => ⟨wor_is h, (wor_again h).1, (wor_again h).2⟩
  obtain ⟨gr, hgr⟩ : ∃ z, grW l = z := ⟨_, rfl⟩
  obtain ⟨ea, hea⟩ : ∃ z, worE l = z := ⟨_, rfl⟩
  obtain ⟨X, hX⟩ : ∃ z, worS l = z := ⟨_, rfl⟩
  obtain ⟨eb, heb⟩ : ∃ z, worE (l.drop k ++ l.take k) = z := ⟨_, rfl⟩
  obtain ⟨Y, hY⟩ : ∃ z, worS (l.drop k ++ l.take k) = z := ⟨_, rfl⟩
  obtain ⟨il, hil⟩ : ∃ z, wisS l = z := ⟨_, rfl⟩
  have hg5 : gr = false → l.length ≤ 500 := fun e => (grW_no (hgr.trans e)).1
  simp only [hgr] at g1 t0 t1 t2 t3 t4
  simp only [hea, hX, heb, hY, hil] at t0 t1 t2 t3 t4 hsw f0 f1
  obtain ⟨EX, hEX⟩ : ∃ z, worE X = z := ⟨_, rfl⟩
  obtain ⟨XX, hXX⟩ : ∃ z, worS X = z := ⟨_, rfl⟩
  obtain ⟨IX, hIX⟩ : ∃ z, wisS X = z := ⟨_, rfl⟩
  simp only [hEX, hXX, hIX] at t3 t4 f1
  obtain ⟨n, hn⟩ : ∃ n, l.length = n := ⟨_, rfl⟩
  rw [hn] at hc1 hk hkl hu g1 t1 t0 hg5 ⊢
  unfold maxLen at hc2
  have hmod : ((a : Int)).tmod ((n : Int) + 1) = (k : Int) := by
    rw [Int.tmod_eq_emod_of_nonneg (by omega), ← hk]; simp
  have hwa : IntKind.i64.wrap (a : Int) = (a : Int) := by rw [IntKind.wrap_i64]; omega
  have hwn : n ≤ 500 → IntKind.i64.wrap ((n : Int) + 1) = (n : Int) + 1 := fun _ => by rw [IntKind.wrap_i64]; omega
  have hn0 : ¬ (n : Int) + 1 = 0 := by omega
  have HU := Lib.hid hu; have G1 := Lib.hid g1; have T1 := Lib.hid t1; have T0 := Lib.hid t0; have T2 := Lib.hid t2; have HSW := Lib.hid hsw; have T3 := Lib.hid t3; have T4 := Lib.hid t4; have F0 := Lib.hid f0; have F1 := Lib.hid f1; have HN := Lib.hid hn; have HMOD := Lib.hid hmod; have HG5 := Lib.hid hg5
  clear hu g1 t1 t0 t2 hsw t3 t4 f0 f1 hn hea hX heb hY hEX hXX hIX hil hgr hz hk hg5 hmod
  go_enter Tryd.func5, Tryd.ntmps5
  go_wp2_with fail
  refine (alive9_any _ h).mono ?_
  rintro e w1 ⟨rfl, b1⟩
  have U1 := Lib.hid (HU.out.below b1); have K1 : Hid (Okw w1) := Lib.hid (h.below b1)
  have B1 := Lib.hid b1; clear b1
  go_wp2_with fail
  refine (G1.out _ U1.out).mono ?_
  rintro e w2 ⟨rfl, b2⟩
  have U2 := Lib.hid (U1.out.below b2); have K2 : Hid (Okw w2) := Lib.hid (K1.out.below b2)
  have B2 := Lib.hid (B1.out.trans (b2.mono B1.out.size)); clear b2
  cases gr
  rotate_left
  · go_wp2
    go_ret
    exact ⟨rfl, B2.out⟩
  have hn5 : n ≤ 500 := HG5.out (by first | rfl | trivial)
  have hwn' := hwn hn5
  have T0' := Lib.hid (T0.out (by first | rfl | trivial)); have T1' := Lib.hid (T1.out (by first | rfl | trivial)); have T2' := Lib.hid (T2.out (by first | rfl | trivial)); have T3' := Lib.hid (T3.out (by first | rfl | trivial)); have T4' := Lib.hid (T4.out (by first | rfl | trivial))
  clear hwn T0 T1 T2 T3 T4 HG5
  go_wp2_with fail
  refine (T1'.out _ K2.out U2.out).mono ?_
  rintro e w3 ⟨va, rfl, r3, b3⟩
  obtain ⟨Aa, ka, e3⟩ := r3.slice
  obtain ⟨nx, hnx⟩ : ∃ z, X.length = z := ⟨_, rfl⟩
  rw [hnx] at e3
  subst e3
  have R3 := Lib.hid r3
  have U3 := Lib.hid (U2.out.below b3); have K3 : Hid (Okw w3) := Lib.hid (K2.out.below b3)
  have B3 := Lib.hid (B2.out.trans (b3.mono B2.out.size)); clear b3 r3
  have HNX := Lib.hid hnx; clear hnx
  clear U1 U2 K1 K2 B1 B2 G1 T1'
  by_cases h1 : ea = 0
  rotate_left
  · have h1' : (ea == 0) = false := by simpa using h1
    obtain ⟨q1, q2⟩ := F0.out h1
    have hx0 : nx = 0 := by rw [← HNX.out, q1]; rfl
    subst hx0
    have q2' : (il == 0) = false := by simpa using q2
    have q2'' : (il != 0) = true := by simpa using q2
    clear F0 F1 HSW q1
    go_wp2_with fail
    refine (T0'.out _ K3.out U3.out).mono ?_
    rintro e w4 ⟨rfl, b4⟩
    have B4 := Lib.hid (B3.out.trans (b4.mono B3.out.size)); clear b4
    go_wp2
    go_ret
    exact ⟨rfl, B4.out⟩
  subst h1
  have h2 : eb = 0 := HSW.out.1.1 (by first | rfl | trivial)
  have h3 : X = Y := HSW.out.2 (by first | rfl | trivial)
  obtain ⟨q1, q2, q3⟩ := F1.out (by first | rfl | trivial)
  subst h2 h3 q1 q2
  rw [q3] at T3'
  clear HSW F0 F1 T0'
  have hmod' := HMOD.out
  have r1 : (k : Int) ≤ (c : Int) := by omega
  have r2 : (n : Int) ≤ (c : Int) := by omega
  have r3 : (k : Int) ≤ (n : Int) := by omega
  have r0 : (0 : Int) ≤ (k : Int) := by omega
  have hmix : Tryd.prog.follows .mixedOrders = true := by kernel_rfl
  have eg : ∀ args w, (callFunc 11 args).run Tryd.prog w = .ok (.enter 11 args) w := enters_of Tryd.func11 (by kernel_rfl) rfl
  have hpl1 : (l.drop k).length = n - k := by rw [List.length_drop, HN.out]
  have hpl2 : (l.take k).length = k := by rw [List.length_take, HN.out]; omega
  obtain ⟨P1, hP1⟩ : ∃ z, l.drop k = z := ⟨_, rfl⟩
  obtain ⟨P2, hP2⟩ : ∃ z, l.take k = z := ⟨_, rfl⟩
  rw [hP1] at hpl1
  rw [hP2] at hpl2
  have HL1 := Lib.hid hpl1; have HL2 := Lib.hid hpl2; have HP1 := Lib.hid hP1; have HP2 := Lib.hid hP2
  have t2' := T2'.out
  simp only [hP1, hP2] at t2'
  have T2n := Lib.hid t2'
  clear T2' t2' hpl1 hpl2 hP1 hP2
  by_cases hn0' : n = 0
  · subst hn0'
    have hl0 : l = [] := List.eq_nil_of_length_eq_zero HN.out
    obtain rfl : k = 0 := by omega
    have D0 : Hid (∀ (W : World) (A' : Option Addr) (c' : Nat), c' ≤ 2 ^ 63 - 1 → (A' = none → c' = 0) → WRuns W (.slice A' 0 c') P1 ∧ WRuns W (.slice A' 0 c') P2) := Lib.hid (fun W A' c' h1 h2 => by rw [← HP1.out, ← HP2.out, hl0]; exact ⟨gr_none h1 h2, gr_none h1 h2⟩)
    clear hl0
    cases A with
    | none =>
      obtain rfl : c = 0 := hc3 rfl
      have X1 := Lib.hid (D0.out w3.drew none 0 (by omega) (fun _ => rfl)).1
      have X2 := Lib.hid (D0.out w3 none 0 (by omega) (fun _ => rfl)).2
      go_wp2
      go_region_law (first
        | (refine xstep_words rfl (.tmp 38) (.tmp 41) w3.heap.size 0 [] P1 (by exact own_litW _ _ (Nat.le_refl _)) (by exact X1.out.below (bel_one _ _)) rfl rfl (by go_simp) (by go_simp) (by simp) (by rw [HL1.out]; omega) ?_; intro v35 w35 h35 k35 j35; have K35 : Hid (OnW w3 v35 P1 w35) := Lib.hid (OnW.one (fun b hb => by simp [Value.ownBlock] at hb; omega) h35 k35); clear h35 k35 j35)
        | (refine xstep_words rfl (.tmp 42) (.tmp 45) w3.heap.size P1.length (gCells wrdCell P1) P2 (by exact K35.out.own) (by exact X2.out.below K35.out.bel) rfl rfl (by go_simp) (by go_simp) (by exact K35.out.bel.size) (by rw [HL1.out, HL2.out]; omega) ?_; intro v39 w39 h39 k39 j39; have K39 : Hid (OnW w3 v39 (P1 ++ P2) w39) := Lib.hid (OnW.two K35.out h39 k39); clear h39 k39 j39)
        | (refine xstep_call rfl 11 (.tmp 46) 22 rfl eg (by go_simp) (T2n.out _ w39 (K3.out.below K39.out.bel) (GRuns.of_own wrd_ln rfl K39.out.own)) ?_; rintro e w9 ⟨y, rfl, r9, b9⟩; refine ⟨_, rfl, ?_⟩; obtain ⟨A9, c9, e9⟩ := r9.slice; rw [HNX.out] at e9; subst e9; have R9 := Lib.hid r9; have B9 := Lib.hid (K39.out.bel.trans (b9.mono K39.out.bel.size)); clear r9 b9))
      simp only [Act.put, List.getElem_toArray, List.getElem_cons_zero, List.getElem_cons_succ, List.setIfInBounds_toArray, List.set_cons_succ, List.set_cons_zero]
      have RX := Lib.hid (R3.out.below B9.out); have K9 : Hid (Okw w9) := Lib.hid (K3.out.below B9.out)
      have BW9 : Hid (Below w.heap.size w w9) := Lib.hid (B3.out.trans (B9.out.mono B3.out.size))
      clear K35 K39 X1 X2 R3 K3 U3 B3 B9 T2n HP1 HP2 HL1 HL2
      go_wp2_with fail
      refine (T3'.out _ _ K9.out RX.out).mono ?_
      rintro e wA ⟨vc, rfl, rA, bA⟩
      obtain ⟨AA, kA, eA⟩ := rA.slice
      rw [HNX.out] at eA
      subst eA
      have RA := Lib.hid rA; have RXA := Lib.hid (RX.out.below bA); have R9A := Lib.hid (R9.out.below bA); have KA : Hid (Okw wA) := Lib.hid (K9.out.below bA)
      have BA := Lib.hid (BW9.out.trans (bA.mono BW9.out.size))
      clear bA rA RX R9 K9 BW9 T3'
      go_wp2_with fail
      refine (T4'.out _ _ KA.out RXA.out).mono ?_
      rintro e wB ⟨rfl, bB⟩
      have RB := Lib.hid (RA.out.below bB); have RXB := Lib.hid (RXA.out.below bB); have R9B := Lib.hid (R9A.out.below bB)
      have BB := Lib.hid (BA.out.trans (bB.mono BA.out.size))
      clear bB RA RXA R9A KA BA T4'
      have cs := refSame9_any _ _ X X wB RXB.out R9B.out
      rw [decide_eq_true rfl] at cs
      have CS := Lib.hid cs; clear cs
      go_wp2_with fail
      refine CS.out.mono ?_
      rintro e wC ⟨rfl, kC, rfl⟩
      obtain ⟨wC, hwC⟩ : ∃ z, z = wB.drewN kC := ⟨_, rfl⟩
      have bC : Below wB.heap.size wB wC := by rw [hwC]; exact below_draws (Below.refl _ _) _
      have RC := Lib.hid (RB.out.below bC); have RXC := Lib.hid (RXB.out.below bC)
      have BC := Lib.hid (BB.out.trans (bC.mono BB.out.size))
      rw [← hwC]
      clear bC hwC CS RB RXB R9B BB
      have cs := refSame9_any _ _ X X wC RXC.out RC.out
      rw [decide_eq_true rfl] at cs
      have CS := Lib.hid cs; clear cs
      go_wp2_with fail
      refine CS.out.mono ?_
      rintro e wD ⟨rfl, kD, rfl⟩
      have BD := Lib.hid (below_draws BC.out kD)
      clear RC RXC BC CS
      go_wp2
      go_ret
      exact ⟨rfl, BD.out⟩
    | some ad =>
      obtain ⟨ab, ao, asp⟩ := ad
      by_cases hck : c = 0
      · subst hck
        have X1 := Lib.hid (D0.out w3.drew (some ⟨ab, ao, asp⟩) 0 (by omega) (fun h => by cases h)).1
        have X2 := Lib.hid (D0.out w3 (some ⟨ab, ao, asp⟩) 0 (by omega) (fun h => by cases h)).2
        go_wp2
        go_region_law (first
          | (refine xstep_words rfl (.tmp 38) (.tmp 41) w3.heap.size 0 [] P1 (by exact own_litW _ _ (Nat.le_refl _)) (by exact X1.out.below (bel_one _ _)) rfl rfl (by go_simp) (by go_simp) (by simp) (by rw [HL1.out]; omega) ?_; intro v35 w35 h35 k35 j35; have K35 : Hid (OnW w3 v35 P1 w35) := Lib.hid (OnW.one (fun b hb => by simp [Value.ownBlock] at hb; omega) h35 k35); clear h35 k35 j35)
          | (refine xstep_words rfl (.tmp 42) (.tmp 45) w3.heap.size P1.length (gCells wrdCell P1) P2 (by exact K35.out.own) (by exact X2.out.below K35.out.bel) rfl rfl (by go_simp) (by go_simp) (by exact K35.out.bel.size) (by rw [HL1.out, HL2.out]; omega) ?_; intro v39 w39 h39 k39 j39; have K39 : Hid (OnW w3 v39 (P1 ++ P2) w39) := Lib.hid (OnW.two K35.out h39 k39); clear h39 k39 j39)
          | (refine xstep_call rfl 11 (.tmp 46) 22 rfl eg (by go_simp) (T2n.out _ w39 (K3.out.below K39.out.bel) (GRuns.of_own wrd_ln rfl K39.out.own)) ?_; rintro e w9 ⟨y, rfl, r9, b9⟩; refine ⟨_, rfl, ?_⟩; obtain ⟨A9, c9, e9⟩ := r9.slice; rw [HNX.out] at e9; subst e9; have R9 := Lib.hid r9; have B9 := Lib.hid (K39.out.bel.trans (b9.mono K39.out.bel.size)); clear r9 b9))
        simp only [Act.put, List.getElem_toArray, List.getElem_cons_zero, List.getElem_cons_succ, List.setIfInBounds_toArray, List.set_cons_succ, List.set_cons_zero]
        have RX := Lib.hid (R3.out.below B9.out); have K9 : Hid (Okw w9) := Lib.hid (K3.out.below B9.out)
        have BW9 : Hid (Below w.heap.size w w9) := Lib.hid (B3.out.trans (B9.out.mono B3.out.size))
        clear K35 K39 X1 X2 R3 K3 U3 B3 B9 T2n HP1 HP2 HL1 HL2
        go_wp2_with fail
        refine (T3'.out _ _ K9.out RX.out).mono ?_
        rintro e wA ⟨vc, rfl, rA, bA⟩
        obtain ⟨AA, kA, eA⟩ := rA.slice
        rw [HNX.out] at eA
        subst eA
        have RA := Lib.hid rA; have RXA := Lib.hid (RX.out.below bA); have R9A := Lib.hid (R9.out.below bA); have KA : Hid (Okw wA) := Lib.hid (K9.out.below bA)
        have BA := Lib.hid (BW9.out.trans (bA.mono BW9.out.size))
        clear bA rA RX R9 K9 BW9 T3'
        go_wp2_with fail
        refine (T4'.out _ _ KA.out RXA.out).mono ?_
        rintro e wB ⟨rfl, bB⟩
        have RB := Lib.hid (RA.out.below bB); have RXB := Lib.hid (RXA.out.below bB); have R9B := Lib.hid (R9A.out.below bB)
        have BB := Lib.hid (BA.out.trans (bB.mono BA.out.size))
        clear bB RA RXA R9A KA BA T4'
        have cs := refSame9_any _ _ X X wB RXB.out R9B.out
        rw [decide_eq_true rfl] at cs
        have CS := Lib.hid cs; clear cs
        go_wp2_with fail
        refine CS.out.mono ?_
        rintro e wC ⟨rfl, kC, rfl⟩
        obtain ⟨wC, hwC⟩ : ∃ z, z = wB.drewN kC := ⟨_, rfl⟩
        have bC : Below wB.heap.size wB wC := by rw [hwC]; exact below_draws (Below.refl _ _) _
        have RC := Lib.hid (RB.out.below bC); have RXC := Lib.hid (RXB.out.below bC)
        have BC := Lib.hid (BB.out.trans (bC.mono BB.out.size))
        rw [← hwC]
        clear bC hwC CS RB RXB R9B BB
        have cs := refSame9_any _ _ X X wC RXC.out RC.out
        rw [decide_eq_true rfl] at cs
        have CS := Lib.hid cs; clear cs
        go_wp2_with fail
        refine CS.out.mono ?_
        rintro e wD ⟨rfl, kD, rfl⟩
        have BD := Lib.hid (below_draws BC.out kD)
        clear RC RXC BC CS
        go_wp2
        go_ret
        exact ⟨rfl, BD.out⟩
      · have X1 := Lib.hid (D0.out w3.drew (some ⟨ab, ao, asp⟩) c (by omega) (fun h => by cases h)).1
        have X2 := Lib.hid (D0.out w3 (some ⟨ab, ao, asp⟩) c (by omega) (fun h => by cases h)).2
        go_wp2
        go_region_law (first
          | (refine xstep_words rfl (.tmp 38) (.tmp 41) w3.heap.size 0 [] P1 (by exact own_litW _ _ (Nat.le_refl _)) (by exact X1.out.below (bel_one _ _)) rfl rfl (by go_simp) (by go_simp) (by simp) (by rw [HL1.out]; omega) ?_; intro v35 w35 h35 k35 j35; have K35 : Hid (OnW w3 v35 P1 w35) := Lib.hid (OnW.one (fun b hb => by simp [Value.ownBlock] at hb; omega) h35 k35); clear h35 k35 j35)
          | (refine xstep_words rfl (.tmp 42) (.tmp 45) w3.heap.size P1.length (gCells wrdCell P1) P2 (by exact K35.out.own) (by exact X2.out.below K35.out.bel) rfl rfl (by go_simp) (by go_simp) (by exact K35.out.bel.size) (by rw [HL1.out, HL2.out]; omega) ?_; intro v39 w39 h39 k39 j39; have K39 : Hid (OnW w3 v39 (P1 ++ P2) w39) := Lib.hid (OnW.two K35.out h39 k39); clear h39 k39 j39)
          | (refine xstep_call rfl 11 (.tmp 46) 22 rfl eg (by go_simp) (T2n.out _ w39 (K3.out.below K39.out.bel) (GRuns.of_own wrd_ln rfl K39.out.own)) ?_; rintro e w9 ⟨y, rfl, r9, b9⟩; refine ⟨_, rfl, ?_⟩; obtain ⟨A9, c9, e9⟩ := r9.slice; rw [HNX.out] at e9; subst e9; have R9 := Lib.hid r9; have B9 := Lib.hid (K39.out.bel.trans (b9.mono K39.out.bel.size)); clear r9 b9))
        simp only [Act.put, List.getElem_toArray, List.getElem_cons_zero, List.getElem_cons_succ, List.setIfInBounds_toArray, List.set_cons_succ, List.set_cons_zero]
        have RX := Lib.hid (R3.out.below B9.out); have K9 : Hid (Okw w9) := Lib.hid (K3.out.below B9.out)
        have BW9 : Hid (Below w.heap.size w w9) := Lib.hid (B3.out.trans (B9.out.mono B3.out.size))
        clear K35 K39 X1 X2 R3 K3 U3 B3 B9 T2n HP1 HP2 HL1 HL2
        go_wp2_with fail
        refine (T3'.out _ _ K9.out RX.out).mono ?_
        rintro e wA ⟨vc, rfl, rA, bA⟩
        obtain ⟨AA, kA, eA⟩ := rA.slice
        rw [HNX.out] at eA
        subst eA
        have RA := Lib.hid rA; have RXA := Lib.hid (RX.out.below bA); have R9A := Lib.hid (R9.out.below bA); have KA : Hid (Okw wA) := Lib.hid (K9.out.below bA)
        have BA := Lib.hid (BW9.out.trans (bA.mono BW9.out.size))
        clear bA rA RX R9 K9 BW9 T3'
        go_wp2_with fail
        refine (T4'.out _ _ KA.out RXA.out).mono ?_
        rintro e wB ⟨rfl, bB⟩
        have RB := Lib.hid (RA.out.below bB); have RXB := Lib.hid (RXA.out.below bB); have R9B := Lib.hid (R9A.out.below bB)
        have BB := Lib.hid (BA.out.trans (bB.mono BA.out.size))
        clear bB RA RXA R9A KA BA T4'
        have cs := refSame9_any _ _ X X wB RXB.out R9B.out
        rw [decide_eq_true rfl] at cs
        have CS := Lib.hid cs; clear cs
        go_wp2_with fail
        refine CS.out.mono ?_
        rintro e wC ⟨rfl, kC, rfl⟩
        obtain ⟨wC, hwC⟩ : ∃ z, z = wB.drewN kC := ⟨_, rfl⟩
        have bC : Below wB.heap.size wB wC := by rw [hwC]; exact below_draws (Below.refl _ _) _
        have RC := Lib.hid (RB.out.below bC); have RXC := Lib.hid (RXB.out.below bC)
        have BC := Lib.hid (BB.out.trans (bC.mono BB.out.size))
        rw [← hwC]
        clear bC hwC CS RB RXB R9B BB
        have cs := refSame9_any _ _ X X wC RXC.out RC.out
        rw [decide_eq_true rfl] at cs
        have CS := Lib.hid cs; clear cs
        go_wp2_with fail
        refine CS.out.mono ?_
        rintro e wD ⟨rfl, kD, rfl⟩
        have BD := Lib.hid (below_draws BC.out kD)
        clear RC RXC BC CS
        go_wp2
        go_ret
        exact ⟨rfl, BD.out⟩
  · obtain ⟨b, o, rfl, hbl, _⟩ := U3.out.cells HN.out (by omega)
    by_cases hck : c = k
    · obtain rfl : k = n := by omega
      subst hck
      have X1 : Hid (WRuns w3.drew (.slice (some ⟨b, o, none⟩) 0 0) P1) := Lib.hid (by rw [← HP1.out, List.drop_eq_nil_of_le (by rw [HN.out]; exact Nat.le_refl _)]; exact gr_none (by simp) (fun h => by cases h))
      have X2 : Hid (WRuns w3 (.slice (some ⟨b, o, none⟩) c c) P2) := Lib.hid (by rw [← HP2.out]; exact gr_front U3.out HN.out c (Nat.le_refl _))
      go_wp2
      go_region_law (first
        | (refine xstep_words rfl (.tmp 38) (.tmp 41) w3.heap.size 0 [] P1 (by exact own_litW _ _ (Nat.le_refl _)) (by exact X1.out.below (bel_one _ _)) rfl rfl (by go_simp) (by go_simp) (by simp) (by rw [HL1.out]; omega) ?_; intro v35 w35 h35 k35 j35; have K35 : Hid (OnW w3 v35 P1 w35) := Lib.hid (OnW.one (fun b hb => by simp [Value.ownBlock] at hb; omega) h35 k35); clear h35 k35 j35)
        | (refine xstep_words rfl (.tmp 42) (.tmp 45) w3.heap.size P1.length (gCells wrdCell P1) P2 (by exact K35.out.own) (by exact X2.out.below K35.out.bel) rfl rfl (by go_simp) (by go_simp) (by exact K35.out.bel.size) (by rw [HL1.out, HL2.out]; omega) ?_; intro v39 w39 h39 k39 j39; have K39 : Hid (OnW w3 v39 (P1 ++ P2) w39) := Lib.hid (OnW.two K35.out h39 k39); clear h39 k39 j39)
        | (refine xstep_call rfl 11 (.tmp 46) 22 rfl eg (by go_simp) (T2n.out _ w39 (K3.out.below K39.out.bel) (GRuns.of_own wrd_ln rfl K39.out.own)) ?_; rintro e w9 ⟨y, rfl, r9, b9⟩; refine ⟨_, rfl, ?_⟩; obtain ⟨A9, c9, e9⟩ := r9.slice; rw [HNX.out] at e9; subst e9; have R9 := Lib.hid r9; have B9 := Lib.hid (K39.out.bel.trans (b9.mono K39.out.bel.size)); clear r9 b9))
      simp only [Act.put, List.getElem_toArray, List.getElem_cons_zero, List.getElem_cons_succ, List.setIfInBounds_toArray, List.set_cons_succ, List.set_cons_zero]
      have RX := Lib.hid (R3.out.below B9.out); have K9 : Hid (Okw w9) := Lib.hid (K3.out.below B9.out)
      have BW9 : Hid (Below w.heap.size w w9) := Lib.hid (B3.out.trans (B9.out.mono B3.out.size))
      clear K35 K39 X1 X2 R3 K3 U3 B3 B9 T2n HP1 HP2 HL1 HL2
      go_wp2_with fail
      refine (T3'.out _ _ K9.out RX.out).mono ?_
      rintro e wA ⟨vc, rfl, rA, bA⟩
      obtain ⟨AA, kA, eA⟩ := rA.slice
      rw [HNX.out] at eA
      subst eA
      have RA := Lib.hid rA; have RXA := Lib.hid (RX.out.below bA); have R9A := Lib.hid (R9.out.below bA); have KA : Hid (Okw wA) := Lib.hid (K9.out.below bA)
      have BA := Lib.hid (BW9.out.trans (bA.mono BW9.out.size))
      clear bA rA RX R9 K9 BW9 T3'
      go_wp2_with fail
      refine (T4'.out _ _ KA.out RXA.out).mono ?_
      rintro e wB ⟨rfl, bB⟩
      have RB := Lib.hid (RA.out.below bB); have RXB := Lib.hid (RXA.out.below bB); have R9B := Lib.hid (R9A.out.below bB)
      have BB := Lib.hid (BA.out.trans (bB.mono BA.out.size))
      clear bB RA RXA R9A KA BA T4'
      have cs := refSame9_any _ _ X X wB RXB.out R9B.out
      rw [decide_eq_true rfl] at cs
      have CS := Lib.hid cs; clear cs
      go_wp2_with fail
      refine CS.out.mono ?_
      rintro e wC ⟨rfl, kC, rfl⟩
      obtain ⟨wC, hwC⟩ : ∃ z, z = wB.drewN kC := ⟨_, rfl⟩
      have bC : Below wB.heap.size wB wC := by rw [hwC]; exact below_draws (Below.refl _ _) _
      have RC := Lib.hid (RB.out.below bC); have RXC := Lib.hid (RXB.out.below bC)
      have BC := Lib.hid (BB.out.trans (bC.mono BB.out.size))
      rw [← hwC]
      clear bC hwC CS RB RXB R9B BB
      have cs := refSame9_any _ _ X X wC RXC.out RC.out
      rw [decide_eq_true rfl] at cs
      have CS := Lib.hid cs; clear cs
      go_wp2_with fail
      refine CS.out.mono ?_
      rintro e wD ⟨rfl, kD, rfl⟩
      have BD := Lib.hid (below_draws BC.out kD)
      clear RC RXC BC CS
      go_wp2
      go_ret
      exact ⟨rfl, BD.out⟩
    · have r4 : ¬ c = k := hck
      have X1 : Hid (WRuns w3.drew (.slice (some ⟨b, o + k * 2, none⟩) (n - k) (c - k)) P1) := Lib.hid (by rw [← HP1.out]; exact (gr_back U3.out HN.out k hkl).below (Below.refl _ _).drew)
      have X2 : Hid (WRuns w3 (.slice (some ⟨b, o, none⟩) k c) P2) := Lib.hid (by rw [← HP2.out]; exact gr_front U3.out HN.out k hkl)
      go_wp2
      go_region_law (first
        | (refine xstep_words rfl (.tmp 38) (.tmp 41) w3.heap.size 0 [] P1 (by exact own_litW _ _ (Nat.le_refl _)) (by exact X1.out.below (bel_one _ _)) rfl rfl (by go_simp) (by go_simp) (by simp) (by rw [HL1.out]; omega) ?_; intro v35 w35 h35 k35 j35; have K35 : Hid (OnW w3 v35 P1 w35) := Lib.hid (OnW.one (fun b hb => by simp [Value.ownBlock] at hb; omega) h35 k35); clear h35 k35 j35)
        | (refine xstep_words rfl (.tmp 42) (.tmp 45) w3.heap.size P1.length (gCells wrdCell P1) P2 (by exact K35.out.own) (by exact X2.out.below K35.out.bel) rfl rfl (by go_simp) (by go_simp) (by exact K35.out.bel.size) (by rw [HL1.out, HL2.out]; omega) ?_; intro v39 w39 h39 k39 j39; have K39 : Hid (OnW w3 v39 (P1 ++ P2) w39) := Lib.hid (OnW.two K35.out h39 k39); clear h39 k39 j39)
        | (refine xstep_call rfl 11 (.tmp 46) 22 rfl eg (by go_simp) (T2n.out _ w39 (K3.out.below K39.out.bel) (GRuns.of_own wrd_ln rfl K39.out.own)) ?_; rintro e w9 ⟨y, rfl, r9, b9⟩; refine ⟨_, rfl, ?_⟩; obtain ⟨A9, c9, e9⟩ := r9.slice; rw [HNX.out] at e9; subst e9; have R9 := Lib.hid r9; have B9 := Lib.hid (K39.out.bel.trans (b9.mono K39.out.bel.size)); clear r9 b9))
      simp only [Act.put, List.getElem_toArray, List.getElem_cons_zero, List.getElem_cons_succ, List.setIfInBounds_toArray, List.set_cons_succ, List.set_cons_zero]
      have RX := Lib.hid (R3.out.below B9.out); have K9 : Hid (Okw w9) := Lib.hid (K3.out.below B9.out)
      have BW9 : Hid (Below w.heap.size w w9) := Lib.hid (B3.out.trans (B9.out.mono B3.out.size))
      clear K35 K39 X1 X2 R3 K3 U3 B3 B9 T2n HP1 HP2 HL1 HL2
      go_wp2_with fail
      refine (T3'.out _ _ K9.out RX.out).mono ?_
      rintro e wA ⟨vc, rfl, rA, bA⟩
      obtain ⟨AA, kA, eA⟩ := rA.slice
      rw [HNX.out] at eA
      subst eA
      have RA := Lib.hid rA; have RXA := Lib.hid (RX.out.below bA); have R9A := Lib.hid (R9.out.below bA); have KA : Hid (Okw wA) := Lib.hid (K9.out.below bA)
      have BA := Lib.hid (BW9.out.trans (bA.mono BW9.out.size))
      clear bA rA RX R9 K9 BW9 T3'
      go_wp2_with fail
      refine (T4'.out _ _ KA.out RXA.out).mono ?_
      rintro e wB ⟨rfl, bB⟩
      have RB := Lib.hid (RA.out.below bB); have RXB := Lib.hid (RXA.out.below bB); have R9B := Lib.hid (R9A.out.below bB)
      have BB := Lib.hid (BA.out.trans (bB.mono BA.out.size))
      clear bB RA RXA R9A KA BA T4'
      have cs := refSame9_any _ _ X X wB RXB.out R9B.out
      rw [decide_eq_true rfl] at cs
      have CS := Lib.hid cs; clear cs
      go_wp2_with fail
      refine CS.out.mono ?_
      rintro e wC ⟨rfl, kC, rfl⟩
      obtain ⟨wC, hwC⟩ : ∃ z, z = wB.drewN kC := ⟨_, rfl⟩
      have bC : Below wB.heap.size wB wC := by rw [hwC]; exact below_draws (Below.refl _ _) _
      have RC := Lib.hid (RB.out.below bC); have RXC := Lib.hid (RXB.out.below bC)
      have BC := Lib.hid (BB.out.trans (bC.mono BB.out.size))
      rw [← hwC]
      clear bC hwC CS RB RXB R9B BB
      have cs := refSame9_any _ _ X X wC RXC.out RC.out
      rw [decide_eq_true rfl] at cs
      have CS := Lib.hid cs; clear cs
      go_wp2_with fail
      refine CS.out.mono ?_
      rintro e wD ⟨rfl, kD, rfl⟩
      have BD := Lib.hid (below_draws BC.out kD)
      clear RC RXC BC CS
      go_wp2
      go_ret
      exact ⟨rfl, BD.out⟩
end Go.Proofs.YtdlmjoijadkphaaDoor
