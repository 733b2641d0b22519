/- CountOrders, walked over what count's functions answer. -/
import Derived.Test.YtmfmbmlfdlebfaaDoorEMer
namespace Go.Proofs.YtmfmbmlfdlebfaaDoor
open Go.RowKit Go.Shelf
set_option linter.unusedSimpArgs false
set_option linter.unusedVariables false

/-- A call of a Go function, as one step of a region that draws its order. -/
theorem step_go_call {P : Program} {ops : Array Oper} {o : Oper} {a : Act} {w : World} {K : Act → World → Prop} {Q : Exit → Act → World → Prop} {E : Prop} (hgd : o.guard = none) (f : Nat) (x : Operand) (t : TypeId) (hop : o.op = .call { callee := .value (.func f), args := #[x], argTypes := #[t] })
    (eg : ∀ args w, (callFunc f args).run P w = .ok (.enter f args) w) {u : Value} (hx : a.eval x = u) {Post : Ending → World → Prop} (hc : Calls P f #[u] w Post) (h : ∀ e w', Post e w' → ∃ v, e = .returned v ∧ K (a.put o.dst v) w') :
    if Region.wanted o (yielded ops a.tmps) = true then Oper.wp P o a w K Q else E := by
  have hw : Region.wanted o (yielded ops a.tmps) = true := by simp [Region.wanted, hgd]
  rw [if_pos hw]
  unfold Oper.wp
  have he : (execOp a.eval o).run P w = .ok (.enter f #[u]) w := by
    have hf : a.eval (.func f) = .func (.func f) #[] #[] := rfl
    simp [execOp, hop, resolve, invoke, Deferred.ofValue, hf, hx, eg, Result.andThen]
  rw [he, Oper.upon_enter]
  refine hc.mono ?_
  intro e w' hp
  obtain ⟨v, rfl, hk⟩ := h e w' hp
  exact hk

/-- What is known behind the appends, and behind the table of the blocks in another order. -/
structure OrdK (W : World) (v : Value) (Y : List Blk) (W' : World) : Prop where
  own : W'.ownsRow W.heap.size 43 3 v Y.length (gCells blkCell Y)
  bel : Below W.heap.size W W'
theorem OrdK.one {W W' : World} {v v' : Value} {ys : List Blk} {o : Obj} (hv : ∀ b, v.ownBlock = some b → W.heap.size ≤ b)
    (h1 : W'.ownsRow W.heap.size 43 3 v' (0 + ys.length) ([] ++ gCells blkCell ys)) (h2 : (W.drew.alloc o).grownBy W' v.ownBlock) : OrdK W v' ys W' :=
  ⟨by simpa using h1, ((Below.refl W.heap.size W).drew.alloc (Nat.le_refl _) o).grown h2 (by simp) hv⟩
theorem OrdK.two {W W' W'' : World} {v v' : Value} {xs ys : List Blk} (h : OrdK W v xs W')
    (h1 : W''.ownsRow W.heap.size 43 3 v' (xs.length + ys.length) (gCells blkCell xs ++ gCells blkCell ys)) (h2 : W'.grownBy W'' v.ownBlock) : OrdK W v' (xs ++ ys) W'' :=
  ⟨by rw [List.length_append, gCells_append]; exact h1, h.bel.grown h2 h.bel.size (fun k hk => (h.own.lt k hk).1)⟩
/-- The part of a slice from a place on. -/
theorem runs_from {w : World} {b o n c : Nat} {l : List Blk} (h : BRuns w (.slice (some ⟨b, o, none⟩) n c) l) (hn : l.length = n) (k : Nat) (hk : k ≤ n) : BRuns w (.slice (some ⟨b, o + k * 3, none⟩) (n - k) (c - k)) (l.drop k) := by
  rcases Nat.lt_or_ge k n with h0 | h0
  · exact h.back hn k h0
  · have e : l.drop k = [] := List.drop_eq_nil_of_le (by omega)
    have e3 : n - k = 0 := by omega
    rw [e, e3]
    obtain ⟨A, c', e', h1, h2, _⟩ := h
    obtain ⟨_, _, rfl⟩ := Value.slice.inj e'
    exact GRuns.none_ (by omega) (fun h => by cases h)

set_option maxRecDepth 100000 in
set_option maxHeartbeats 16000000 in
theorem countOrders_walk (u : Value) (l : List Blk) (a : Nat) (ha : a < 65536) (w : World) (h : Okw w) (hu : BRuns w u l) (hz : szM l) :
    Calls Tryd.prog 6 #[u, .int .u16 (a : Int)] w (RetTrue w) := by
  have g1 := fun w hu => great_any u l w hu hz
  have t1 := fun (hg : notGreat l) w hO hu => ctable_any u l w hO hu (by have := hg.1; omega) hg.szL
  have hcap : ∃ A c, u = .slice A l.length c ∧ l.length ≤ c ∧ c ≤ maxLen ∧ (A = none → c = 0) := by
    obtain ⟨A, c, e, h1, h2, _⟩ := hu
    exact ⟨A, c, e, h1, h2.1, h2.2⟩
  obtain ⟨A, c, e, hc1, hc2, hc3⟩ := hcap
  subst e
  obtain ⟨k, hk⟩ : ∃ k, a % (l.length + 1) = k := ⟨_, rfl⟩
  have hkl : k ≤ l.length := by rw [← hk]; exact Nat.lt_succ_iff.1 (Nat.mod_lt _ (by omega))
  have t2 := fun (hg : notGreat l) x w hO hx => ctable_any x (l.drop k ++ l.take k) w hO hx (by have := hg.1; simp; omega) (fun z hz => by rcases List.mem_append.1 hz with h | h; exact hg.szL z (List.mem_of_mem_drop h); exact hg.szL z (List.mem_of_mem_take h))
  have hsw := tab_swap (l.take k) (l.drop k)
  rw [List.take_append_drop] at hsw
  have tt := fun (hg : notGreat l) x w hO hx => total_any x (tabS l) w hO hx (by have := hg.1; have := tabS_len l; omega) (szL_tab hg.szL)
  have tc := fun (hg : notGreat l) x w hO hx => check6_any x (tabS l) w hO hx (by have := hg.1; have := tabS_len l; omega) (szL_tab hg.szL)
  have f0 : tabE l ≠ 0 → tabS l = [] := fun h => by rw [tabS, if_neg h]
  have f1 : tabE l = 0 → totS (tabS l) = sumN l ∧ chkT (tabS l) = 0 ∧ okN l ∧ sumN l ≤ 1073741824 := fun h => by
    obtain ⟨q1, _, q3⟩ := tabE_facts h
    refine ⟨tot_tab h, ?_, okN_of q1, q3⟩
    rw [tabS, if_pos h]; exact tab_chk h
  obtain ⟨ea, hea⟩ : ∃ z, tabE l = z := ⟨_, rfl⟩
  obtain ⟨X, hX⟩ : ∃ z, tabS l = z := ⟨_, rfl⟩
  obtain ⟨eb, heb⟩ : ∃ z, tabE (l.drop k ++ l.take k) = z := ⟨_, rfl⟩
  obtain ⟨Y, hY⟩ : ∃ z, tabS (l.drop k ++ l.take k) = z := ⟨_, rfl⟩
  simp only [hea, hX, heb, hY] at t1 t2 hsw tt tc f0 f1
  obtain ⟨TX, hTX⟩ : ∃ z, totS X = z := ⟨_, rfl⟩
  obtain ⟨KX, hKX⟩ : ∃ z, chkT X = z := ⟨_, rfl⟩
  simp only [hTX, hKX] at tt tc f1
  obtain ⟨n, hn⟩ : ∃ n, l.length = n := ⟨_, rfl⟩
  rw [hn] at hc1 hk hkl hu g1 t1 ⊢
  unfold maxLen at hc2
  have hmod : ((a : Int)).tmod ((n : Int) + 1) = (k : Int) := by
    rw [Int.tmod_eq_emod_of_nonneg (by omega), ← hk]; simp
  have hwa : IntKind.i64.wrap (a : Int) = (a : Int) := by rw [IntKind.wrap_i64]; omega
  have hwn : n ≤ 500 → IntKind.i64.wrap ((n : Int) + 1) = (n : Int) + 1 := fun _ => by rw [IntKind.wrap_i64]; omega
  have hn0 : ¬ (n : Int) + 1 = 0 := by omega
  have HU := Lib.hid hu; have G1 := Lib.hid g1; have T1 := Lib.hid t1; have T2 := Lib.hid t2; have HSW := Lib.hid hsw; have TT := Lib.hid tt; have TC := Lib.hid tc; have F0 := Lib.hid f0; have F1 := Lib.hid f1; have HN := Lib.hid hn; have HMOD := Lib.hid hmod
  clear hu g1 t1 t2 hsw tt tc f0 f1 hn hea hX heb hY hTX hKX hz hk
  go_enter Tryd.func6, Tryd.ntmps6
  go_wp2_with fail
  refine (alive6_any _ h).mono ?_
  rintro e w1 ⟨rfl, b1⟩
  have U1 := Lib.hid (HU.out.below b1); have K1 : Hid (Okw w1) := Lib.hid (h.below b1)
  have B1 := Lib.hid b1; clear b1
  go_wp2_with fail
  refine (G1.out _ U1.out).mono ?_
  rintro e w2 ⟨hg, b2⟩
  have U2 := Lib.hid (U1.out.below b2); have K2 : Hid (Okw w2) := Lib.hid (K1.out.below b2)
  have B2 := Lib.hid (B1.out.trans (b2.mono B1.out.size)); clear b2
  rcases hg with rfl | ⟨rfl, hg⟩
  · go_wp2
    go_ret
    exact ⟨rfl, B2.out⟩
  have HG := Lib.hid hg
  have hn5 : n ≤ 500 := by rw [← HN.out]; exact hg.1
  have hwn' := hwn hn5
  clear hg hwn
  go_wp2_with fail
  refine (T1.out HG.out _ K2.out U2.out).mono ?_
  rintro e w3 ⟨va, rfl, r3, b3⟩
  obtain ⟨Aa, ka, rfl⟩ := r3.slice
  have R3 := Lib.hid r3
  have U3 := Lib.hid (U2.out.below b3); have K3 : Hid (Okw w3) := Lib.hid (K2.out.below b3)
  have B3 := Lib.hid (B2.out.trans (b3.mono B2.out.size)); clear b3 r3
  clear U1 U2 K1 K2 B1 B2 G1 T1
  have hmod' := HMOD.out
  have r1 : (k : Int) ≤ (c : Int) := by omega
  have r2 : (n : Int) ≤ (c : Int) := by omega
  have r3 : (k : Int) ≤ (n : Int) := by omega
  have r0 : (0 : Int) ≤ (k : Int) := by omega
  have hmix : Tryd.prog.follows .mixedOrders = true := by kernel_rfl
  have eg : ∀ args w, (callFunc 12 args).run Tryd.prog w = .ok (.enter 12 args) w := enters_of Tryd.func12 (by kernel_rfl) rfl
  obtain ⟨nx, hnx⟩ : ∃ z, X.length = z := ⟨_, rfl⟩
  obtain ⟨ny, hny⟩ : ∃ z, Y.length = z := ⟨_, rfl⟩
  rw [hnx] at R3 ⊢
  have HNX := Lib.hid hnx; have HNY := Lib.hid hny; clear hnx hny
  have hpl1 : (l.drop k).length = n - k := by rw [List.length_drop, HN.out]
  have hpl2 : (l.take k).length = k := by rw [List.length_take, HN.out]; omega
  obtain ⟨P1, hP1⟩ : ∃ z, l.drop k = z := ⟨_, rfl⟩
  obtain ⟨P2, hP2⟩ : ∃ z, l.take k = z := ⟨_, rfl⟩
  rw [hP1] at hpl1
  rw [hP2] at hpl2
  have HL1 := Lib.hid hpl1; have HL2 := Lib.hid hpl2; have HP1 := Lib.hid hP1; have HP2 := Lib.hid hP2
  have t2' := T2.out
  simp only [hP1, hP2] at t2'
  have T2' := Lib.hid t2'
  clear T2 t2' hpl1 hpl2 hP1 hP2
  by_cases hn0' : n = 0
  · subst hn0'
    have hl0 : l = [] := List.eq_nil_of_length_eq_zero HN.out
    obtain rfl : k = 0 := by omega
    have D0 : Hid (∀ (W : World) (A' : Option Addr) (c' : Nat), c' ≤ 2 ^ 63 - 1 → (A' = none → c' = 0) → BRuns W (.slice A' 0 c') P1 ∧ BRuns W (.slice A' 0 c') P2) := Lib.hid (fun W A' c' h1 h2 => by rw [← HP1.out, ← HP2.out, hl0]; exact ⟨GRuns.none_ h1 h2, GRuns.none_ h1 h2⟩)
    clear hl0
    cases A with
    | none =>
      obtain rfl : c = 0 := hc3 rfl
      have X1 := Lib.hid (D0.out w3.drew none 0 (by omega) (fun _ => rfl)).1
      have X2 := Lib.hid (D0.out w3 none 0 (by omega) (fun _ => rfl)).2
      go_wp2
      go_region_law (first
        | (refine step_append_blks rfl (.tmp 31) (.tmp 34) w3.heap.size 0 [] P1 (by exact own_litB _ _ (Nat.le_refl _)) (by exact X1.out.below (blw_1 _ _)) rfl rfl (by go_simp) (by go_simp) (by simp) (by rw [HL1.out]; omega) ?_; intro v35 w35 h35 k35 j35; have K35 : Hid (OrdK w3 v35 P1 w35) := Lib.hid (OrdK.one (fun b hb => by simp [Value.ownBlock] at hb; omega) h35 k35); clear h35 k35 j35)
        | (refine step_append_blks rfl (.tmp 35) (.tmp 38) w3.heap.size P1.length (gCells blkCell P1) P2 (by exact K35.out.own) (by exact X2.out.below K35.out.bel) rfl rfl (by go_simp) (by go_simp) (by exact K35.out.bel.size) (by rw [HL1.out, HL2.out]; omega) ?_; intro v39 w39 h39 k39 j39; have K39 : Hid (OrdK w3 v39 (P1 ++ P2) w39) := Lib.hid (OrdK.two K35.out h39 k39); clear h39 k39 j39)
        | (refine step_go_call rfl 12 (.tmp 39) 22 rfl eg (by go_simp) (T2'.out HG.out _ w39 (K3.out.below K39.out.bel) (GRuns.of_own blk_ln rfl K39.out.own)) ?_; rintro e w9 ⟨y, rfl, r9, b9⟩; refine ⟨_, rfl, ?_⟩; obtain ⟨A9, c9, e9⟩ := r9.slice; rw [HNY.out] at e9; subst e9; have R9 := Lib.hid r9; have B9 := Lib.hid (K39.out.bel.trans (b9.mono K39.out.bel.size)); clear r9 b9))
      simp only [Act.put, List.getElem_toArray, List.getElem_cons_zero, List.getElem_cons_succ, List.setIfInBounds_toArray, List.set_cons_succ, List.set_cons_zero]
      have RX := Lib.hid (R3.out.below B9.out); have K9 : Hid (Okw w9) := Lib.hid (K3.out.below B9.out); have UL := Lib.hid (U3.out.below B9.out)
      have BW9 : Hid (Below w.heap.size w w9) := Lib.hid (B3.out.trans (B9.out.mono B3.out.size))
      have HO := HSW.out
      by_cases h1 : ea = 0
      · subst h1
        have h2 : eb = 0 := HO.1.1 (by first | rfl | trivial)
        have h3 : X = Y := HO.2 (by first | rfl | trivial)
        obtain ⟨q1, q2, q3, q4⟩ := F1.out (by first | rfl | trivial)
        subst h2 h3
        have SM := Lib.hid (fun j => sumN_take_le (l := l) (fun b hb => (q3 b hb).1) j)
        have S0 := Lib.hid (fun j => sumN_nonneg (l := l.take j) (fun b hb => (q3 b (List.mem_of_mem_take hb)).1))
        have Q1 := Lib.hid q1; have Q2 := Lib.hid q2; have Q3 := Lib.hid q3
        obtain ⟨tot, htot⟩ : ∃ z, sumN l = z := ⟨_, rfl⟩
        rw [htot] at q4 Q1 SM
        have HTOT := Lib.hid htot
        clear q1 q2 q3 HO HSW F0 F1 htot K35 K39 X1 X2
        go_wp2
        go_loopw [10, 54] (fun s10 s54 wr => ∃ j : Nat, j ≤ 0 ∧ s54 = .int .i64 j ∧ s10 = .int .i64 (sumN (l.take j)) ∧ Hid (Below w9.heap.size w9 wr)) (fun _ s54 _ => 0 - (RowKit.intOf s54).toNat)
        case atStart => exact ⟨0, Nat.zero_le _, rfl, by simp [sumN], Lib.hid (Below.refl _ _)⟩
        case round =>
          obtain ⟨j, hjn, rfl, rfl, BJ⟩ := hrel
          have sj := SM.out j
          have s0j := S0.out j
          obtain ⟨sv, hsv⟩ : ∃ z, sumN (l.take j) = z := ⟨_, rfl⟩
          rw [hsv] at sj s0j ⊢
          have HSV := Lib.hid hsv; clear hsv
          obtain rfl : j = 0 := by omega
          have es : sv = tot := by rw [← HSV.out, ← HTOT.out, List.take_of_length_le (by rw [HN.out]; exact Nat.le_refl _)]
          have et : TX = sv := by rw [es]; exact Q1.out
          have ek : KX = 0 := Q2.out
          subst et ek
          have RJ := Lib.hid (RX.out.below BJ.out); have SJ := Lib.hid (R9.out.below BJ.out); have KJ : Hid (Okw wr) := Lib.hid (K9.out.below BJ.out)
          have BWJ : Hid (Below w.heap.size w wr) := Lib.hid (BW9.out.trans (BJ.out.mono BW9.out.size))
          clear es Q1 Q2 HSV
          go_wp2_with fail
          refine (TT.out HG.out _ _ KJ.out RJ.out).mono ?_
          rintro e wB ⟨rfl, bB⟩
          have RB := Lib.hid (RJ.out.below bB); have KB : Hid (Okw wB) := Lib.hid (KJ.out.below bB)
          have cs := refSame5_any _ _ X X wB (RJ.out.below bB) (SJ.out.below bB)
          rw [decide_eq_true rfl] at cs
          have CS := Lib.hid cs
          have BB := Lib.hid (BWJ.out.trans (bB.mono BWJ.out.size)); clear bB cs
          go_wp2_with fail
          refine CS.out.mono ?_
          rintro e wC ⟨rfl, kC, rfl⟩
          obtain ⟨wC, hwC⟩ : ∃ z, z = wB.drewN kC := ⟨_, rfl⟩
          have bC : Below wB.heap.size wB wC := by rw [hwC]; exact below_draws (Below.refl _ _) _
          have RC := Lib.hid (RB.out.below bC); have KC : Hid (Okw wC) := Lib.hid (KB.out.below bC)
          have BC := Lib.hid (BB.out.trans (bC.mono BB.out.size))
          rw [← hwC]
          clear bC hwC
          go_wp2_with fail
          refine (TC.out HG.out _ _ KC.out RC.out).mono ?_
          rintro e wD ⟨rfl, bD⟩
          have BD := Lib.hid (BC.out.trans (bD.mono BC.out.size)); clear bD
          go_wp2
          go_ret
          exact ⟨rfl, BD.out⟩
      · have h2 : eb ≠ 0 := fun e => h1 (HO.1.2 e)
        have h1' : (ea == 0) = false := by simpa using h1
        have h2' : (eb == 0) = false := by simpa using h2
        have h2'' : (eb != 0) = true := by simpa using h2
        have h1'' : (ea != 0) = true := by simpa using h1
        have hx0 : nx = 0 := by rw [← HNX.out, F0.out h1]; rfl
        subst hx0
        clear HO HSW F0 F1
        go_wp2
        go_ret
        exact ⟨rfl, BW9.out⟩
    | some ad =>
      obtain ⟨ab, ao, asp⟩ := ad
      by_cases hck : c = 0
      · subst hck
        have X1 := Lib.hid (D0.out w3.drew (some ⟨ab, ao, asp⟩) 0 (by omega) (fun h => by cases h)).1
        have X2 := Lib.hid (D0.out w3 (some ⟨ab, ao, asp⟩) 0 (by omega) (fun h => by cases h)).2
        go_wp2
        go_region_law (first
          | (refine step_append_blks rfl (.tmp 31) (.tmp 34) w3.heap.size 0 [] P1 (by exact own_litB _ _ (Nat.le_refl _)) (by exact X1.out.below (blw_1 _ _)) rfl rfl (by go_simp) (by go_simp) (by simp) (by rw [HL1.out]; omega) ?_; intro v35 w35 h35 k35 j35; have K35 : Hid (OrdK w3 v35 P1 w35) := Lib.hid (OrdK.one (fun b hb => by simp [Value.ownBlock] at hb; omega) h35 k35); clear h35 k35 j35)
          | (refine step_append_blks rfl (.tmp 35) (.tmp 38) w3.heap.size P1.length (gCells blkCell P1) P2 (by exact K35.out.own) (by exact X2.out.below K35.out.bel) rfl rfl (by go_simp) (by go_simp) (by exact K35.out.bel.size) (by rw [HL1.out, HL2.out]; omega) ?_; intro v39 w39 h39 k39 j39; have K39 : Hid (OrdK w3 v39 (P1 ++ P2) w39) := Lib.hid (OrdK.two K35.out h39 k39); clear h39 k39 j39)
          | (refine step_go_call rfl 12 (.tmp 39) 22 rfl eg (by go_simp) (T2'.out HG.out _ w39 (K3.out.below K39.out.bel) (GRuns.of_own blk_ln rfl K39.out.own)) ?_; rintro e w9 ⟨y, rfl, r9, b9⟩; refine ⟨_, rfl, ?_⟩; obtain ⟨A9, c9, e9⟩ := r9.slice; rw [HNY.out] at e9; subst e9; have R9 := Lib.hid r9; have B9 := Lib.hid (K39.out.bel.trans (b9.mono K39.out.bel.size)); clear r9 b9))
        simp only [Act.put, List.getElem_toArray, List.getElem_cons_zero, List.getElem_cons_succ, List.setIfInBounds_toArray, List.set_cons_succ, List.set_cons_zero]
        have RX := Lib.hid (R3.out.below B9.out); have K9 : Hid (Okw w9) := Lib.hid (K3.out.below B9.out); have UL := Lib.hid (U3.out.below B9.out)
        have BW9 : Hid (Below w.heap.size w w9) := Lib.hid (B3.out.trans (B9.out.mono B3.out.size))
        have HO := HSW.out
        by_cases h1 : ea = 0
        · subst h1
          have h2 : eb = 0 := HO.1.1 (by first | rfl | trivial)
          have h3 : X = Y := HO.2 (by first | rfl | trivial)
          obtain ⟨q1, q2, q3, q4⟩ := F1.out (by first | rfl | trivial)
          subst h2 h3
          have SM := Lib.hid (fun j => sumN_take_le (l := l) (fun b hb => (q3 b hb).1) j)
          have S0 := Lib.hid (fun j => sumN_nonneg (l := l.take j) (fun b hb => (q3 b (List.mem_of_mem_take hb)).1))
          have Q1 := Lib.hid q1; have Q2 := Lib.hid q2; have Q3 := Lib.hid q3
          obtain ⟨tot, htot⟩ : ∃ z, sumN l = z := ⟨_, rfl⟩
          rw [htot] at q4 Q1 SM
          have HTOT := Lib.hid htot
          clear q1 q2 q3 HO HSW F0 F1 htot K35 K39 X1 X2
          go_wp2
          go_loopw [10, 54] (fun s10 s54 wr => ∃ j : Nat, j ≤ 0 ∧ s54 = .int .i64 j ∧ s10 = .int .i64 (sumN (l.take j)) ∧ Hid (Below w9.heap.size w9 wr)) (fun _ s54 _ => 0 - (RowKit.intOf s54).toNat)
          case atStart => exact ⟨0, Nat.zero_le _, rfl, by simp [sumN], Lib.hid (Below.refl _ _)⟩
          case round =>
            obtain ⟨j, hjn, rfl, rfl, BJ⟩ := hrel
            have sj := SM.out j
            have s0j := S0.out j
            obtain ⟨sv, hsv⟩ : ∃ z, sumN (l.take j) = z := ⟨_, rfl⟩
            rw [hsv] at sj s0j ⊢
            have HSV := Lib.hid hsv; clear hsv
            obtain rfl : j = 0 := by omega
            have es : sv = tot := by rw [← HSV.out, ← HTOT.out, List.take_of_length_le (by rw [HN.out]; exact Nat.le_refl _)]
            have et : TX = sv := by rw [es]; exact Q1.out
            have ek : KX = 0 := Q2.out
            subst et ek
            have RJ := Lib.hid (RX.out.below BJ.out); have SJ := Lib.hid (R9.out.below BJ.out); have KJ : Hid (Okw wr) := Lib.hid (K9.out.below BJ.out)
            have BWJ : Hid (Below w.heap.size w wr) := Lib.hid (BW9.out.trans (BJ.out.mono BW9.out.size))
            clear es Q1 Q2 HSV
            go_wp2_with fail
            refine (TT.out HG.out _ _ KJ.out RJ.out).mono ?_
            rintro e wB ⟨rfl, bB⟩
            have RB := Lib.hid (RJ.out.below bB); have KB : Hid (Okw wB) := Lib.hid (KJ.out.below bB)
            have cs := refSame5_any _ _ X X wB (RJ.out.below bB) (SJ.out.below bB)
            rw [decide_eq_true rfl] at cs
            have CS := Lib.hid cs
            have BB := Lib.hid (BWJ.out.trans (bB.mono BWJ.out.size)); clear bB cs
            go_wp2_with fail
            refine CS.out.mono ?_
            rintro e wC ⟨rfl, kC, rfl⟩
            obtain ⟨wC, hwC⟩ : ∃ z, z = wB.drewN kC := ⟨_, rfl⟩
            have bC : Below wB.heap.size wB wC := by rw [hwC]; exact below_draws (Below.refl _ _) _
            have RC := Lib.hid (RB.out.below bC); have KC : Hid (Okw wC) := Lib.hid (KB.out.below bC)
            have BC := Lib.hid (BB.out.trans (bC.mono BB.out.size))
            rw [← hwC]
            clear bC hwC
            go_wp2_with fail
            refine (TC.out HG.out _ _ KC.out RC.out).mono ?_
            rintro e wD ⟨rfl, bD⟩
            have BD := Lib.hid (BC.out.trans (bD.mono BC.out.size)); clear bD
            go_wp2
            go_ret
            exact ⟨rfl, BD.out⟩
        · have h2 : eb ≠ 0 := fun e => h1 (HO.1.2 e)
          have h1' : (ea == 0) = false := by simpa using h1
          have h2' : (eb == 0) = false := by simpa using h2
          have h2'' : (eb != 0) = true := by simpa using h2
          have h1'' : (ea != 0) = true := by simpa using h1
          have hx0 : nx = 0 := by rw [← HNX.out, F0.out h1]; rfl
          subst hx0
          clear HO HSW F0 F1
          go_wp2
          go_ret
          exact ⟨rfl, BW9.out⟩
      · have X1 := Lib.hid (D0.out w3.drew (some ⟨ab, ao, asp⟩) c (by omega) (fun h => by cases h)).1
        have X2 := Lib.hid (D0.out w3 (some ⟨ab, ao, asp⟩) c (by omega) (fun h => by cases h)).2
        go_wp2
        go_region_law (first
          | (refine step_append_blks rfl (.tmp 31) (.tmp 34) w3.heap.size 0 [] P1 (by exact own_litB _ _ (Nat.le_refl _)) (by exact X1.out.below (blw_1 _ _)) rfl rfl (by go_simp) (by go_simp) (by simp) (by rw [HL1.out]; omega) ?_; intro v35 w35 h35 k35 j35; have K35 : Hid (OrdK w3 v35 P1 w35) := Lib.hid (OrdK.one (fun b hb => by simp [Value.ownBlock] at hb; omega) h35 k35); clear h35 k35 j35)
          | (refine step_append_blks rfl (.tmp 35) (.tmp 38) w3.heap.size P1.length (gCells blkCell P1) P2 (by exact K35.out.own) (by exact X2.out.below K35.out.bel) rfl rfl (by go_simp) (by go_simp) (by exact K35.out.bel.size) (by rw [HL1.out, HL2.out]; omega) ?_; intro v39 w39 h39 k39 j39; have K39 : Hid (OrdK w3 v39 (P1 ++ P2) w39) := Lib.hid (OrdK.two K35.out h39 k39); clear h39 k39 j39)
          | (refine step_go_call rfl 12 (.tmp 39) 22 rfl eg (by go_simp) (T2'.out HG.out _ w39 (K3.out.below K39.out.bel) (GRuns.of_own blk_ln rfl K39.out.own)) ?_; rintro e w9 ⟨y, rfl, r9, b9⟩; refine ⟨_, rfl, ?_⟩; obtain ⟨A9, c9, e9⟩ := r9.slice; rw [HNY.out] at e9; subst e9; have R9 := Lib.hid r9; have B9 := Lib.hid (K39.out.bel.trans (b9.mono K39.out.bel.size)); clear r9 b9))
        simp only [Act.put, List.getElem_toArray, List.getElem_cons_zero, List.getElem_cons_succ, List.setIfInBounds_toArray, List.set_cons_succ, List.set_cons_zero]
        have RX := Lib.hid (R3.out.below B9.out); have K9 : Hid (Okw w9) := Lib.hid (K3.out.below B9.out); have UL := Lib.hid (U3.out.below B9.out)
        have BW9 : Hid (Below w.heap.size w w9) := Lib.hid (B3.out.trans (B9.out.mono B3.out.size))
        have HO := HSW.out
        by_cases h1 : ea = 0
        · subst h1
          have h2 : eb = 0 := HO.1.1 (by first | rfl | trivial)
          have h3 : X = Y := HO.2 (by first | rfl | trivial)
          obtain ⟨q1, q2, q3, q4⟩ := F1.out (by first | rfl | trivial)
          subst h2 h3
          have SM := Lib.hid (fun j => sumN_take_le (l := l) (fun b hb => (q3 b hb).1) j)
          have S0 := Lib.hid (fun j => sumN_nonneg (l := l.take j) (fun b hb => (q3 b (List.mem_of_mem_take hb)).1))
          have Q1 := Lib.hid q1; have Q2 := Lib.hid q2; have Q3 := Lib.hid q3
          obtain ⟨tot, htot⟩ : ∃ z, sumN l = z := ⟨_, rfl⟩
          rw [htot] at q4 Q1 SM
          have HTOT := Lib.hid htot
          clear q1 q2 q3 HO HSW F0 F1 htot K35 K39 X1 X2
          go_wp2
          go_loopw [10, 54] (fun s10 s54 wr => ∃ j : Nat, j ≤ 0 ∧ s54 = .int .i64 j ∧ s10 = .int .i64 (sumN (l.take j)) ∧ Hid (Below w9.heap.size w9 wr)) (fun _ s54 _ => 0 - (RowKit.intOf s54).toNat)
          case atStart => exact ⟨0, Nat.zero_le _, rfl, by simp [sumN], Lib.hid (Below.refl _ _)⟩
          case round =>
            obtain ⟨j, hjn, rfl, rfl, BJ⟩ := hrel
            have sj := SM.out j
            have s0j := S0.out j
            obtain ⟨sv, hsv⟩ : ∃ z, sumN (l.take j) = z := ⟨_, rfl⟩
            rw [hsv] at sj s0j ⊢
            have HSV := Lib.hid hsv; clear hsv
            obtain rfl : j = 0 := by omega
            have es : sv = tot := by rw [← HSV.out, ← HTOT.out, List.take_of_length_le (by rw [HN.out]; exact Nat.le_refl _)]
            have et : TX = sv := by rw [es]; exact Q1.out
            have ek : KX = 0 := Q2.out
            subst et ek
            have RJ := Lib.hid (RX.out.below BJ.out); have SJ := Lib.hid (R9.out.below BJ.out); have KJ : Hid (Okw wr) := Lib.hid (K9.out.below BJ.out)
            have BWJ : Hid (Below w.heap.size w wr) := Lib.hid (BW9.out.trans (BJ.out.mono BW9.out.size))
            clear es Q1 Q2 HSV
            go_wp2_with fail
            refine (TT.out HG.out _ _ KJ.out RJ.out).mono ?_
            rintro e wB ⟨rfl, bB⟩
            have RB := Lib.hid (RJ.out.below bB); have KB : Hid (Okw wB) := Lib.hid (KJ.out.below bB)
            have cs := refSame5_any _ _ X X wB (RJ.out.below bB) (SJ.out.below bB)
            rw [decide_eq_true rfl] at cs
            have CS := Lib.hid cs
            have BB := Lib.hid (BWJ.out.trans (bB.mono BWJ.out.size)); clear bB cs
            go_wp2_with fail
            refine CS.out.mono ?_
            rintro e wC ⟨rfl, kC, rfl⟩
            obtain ⟨wC, hwC⟩ : ∃ z, z = wB.drewN kC := ⟨_, rfl⟩
            have bC : Below wB.heap.size wB wC := by rw [hwC]; exact below_draws (Below.refl _ _) _
            have RC := Lib.hid (RB.out.below bC); have KC : Hid (Okw wC) := Lib.hid (KB.out.below bC)
            have BC := Lib.hid (BB.out.trans (bC.mono BB.out.size))
            rw [← hwC]
            clear bC hwC
            go_wp2_with fail
            refine (TC.out HG.out _ _ KC.out RC.out).mono ?_
            rintro e wD ⟨rfl, bD⟩
            have BD := Lib.hid (BC.out.trans (bD.mono BC.out.size)); clear bD
            go_wp2
            go_ret
            exact ⟨rfl, BD.out⟩
        · have h2 : eb ≠ 0 := fun e => h1 (HO.1.2 e)
          have h1' : (ea == 0) = false := by simpa using h1
          have h2' : (eb == 0) = false := by simpa using h2
          have h2'' : (eb != 0) = true := by simpa using h2
          have h1'' : (ea != 0) = true := by simpa using h1
          have hx0 : nx = 0 := by rw [← HNX.out, F0.out h1]; rfl
          subst hx0
          clear HO HSW F0 F1
          go_wp2
          go_ret
          exact ⟨rfl, BW9.out⟩
  · obtain ⟨b, o, rfl, hbl, _⟩ := U3.out.cells HN.out (by omega)
    by_cases hck : c = k
    · obtain rfl : k = n := by omega
      subst hck
      have X1 : Hid (BRuns w3.drew (.slice (some ⟨b, o, none⟩) 0 0) P1) := Lib.hid (by rw [← HP1.out, List.drop_eq_nil_of_le (by rw [HN.out]; exact Nat.le_refl _)]; exact GRuns.none_ (by simp) (fun h => by cases h))
      have X2 : Hid (BRuns w3 (.slice (some ⟨b, o, none⟩) c c) P2) := Lib.hid (by rw [← HP2.out]; exact U3.out.front HN.out c (Nat.le_refl _))
      go_wp2
      go_region_law (first
        | (refine step_append_blks rfl (.tmp 31) (.tmp 34) w3.heap.size 0 [] P1 (by exact own_litB _ _ (Nat.le_refl _)) (by exact X1.out.below (blw_1 _ _)) rfl rfl (by go_simp) (by go_simp) (by simp) (by rw [HL1.out]; omega) ?_; intro v35 w35 h35 k35 j35; have K35 : Hid (OrdK w3 v35 P1 w35) := Lib.hid (OrdK.one (fun b hb => by simp [Value.ownBlock] at hb; omega) h35 k35); clear h35 k35 j35)
        | (refine step_append_blks rfl (.tmp 35) (.tmp 38) w3.heap.size P1.length (gCells blkCell P1) P2 (by exact K35.out.own) (by exact X2.out.below K35.out.bel) rfl rfl (by go_simp) (by go_simp) (by exact K35.out.bel.size) (by rw [HL1.out, HL2.out]; omega) ?_; intro v39 w39 h39 k39 j39; have K39 : Hid (OrdK w3 v39 (P1 ++ P2) w39) := Lib.hid (OrdK.two K35.out h39 k39); clear h39 k39 j39)
        | (refine step_go_call rfl 12 (.tmp 39) 22 rfl eg (by go_simp) (T2'.out HG.out _ w39 (K3.out.below K39.out.bel) (GRuns.of_own blk_ln rfl K39.out.own)) ?_; rintro e w9 ⟨y, rfl, r9, b9⟩; refine ⟨_, rfl, ?_⟩; obtain ⟨A9, c9, e9⟩ := r9.slice; rw [HNY.out] at e9; subst e9; have R9 := Lib.hid r9; have B9 := Lib.hid (K39.out.bel.trans (b9.mono K39.out.bel.size)); clear r9 b9))
      simp only [Act.put, List.getElem_toArray, List.getElem_cons_zero, List.getElem_cons_succ, List.setIfInBounds_toArray, List.set_cons_succ, List.set_cons_zero]
      have RX := Lib.hid (R3.out.below B9.out); have K9 : Hid (Okw w9) := Lib.hid (K3.out.below B9.out); have UL := Lib.hid (U3.out.below B9.out)
      have BW9 : Hid (Below w.heap.size w w9) := Lib.hid (B3.out.trans (B9.out.mono B3.out.size))
      have HO := HSW.out
      by_cases h1 : ea = 0
      · subst h1
        have h2 : eb = 0 := HO.1.1 (by first | rfl | trivial)
        have h3 : X = Y := HO.2 (by first | rfl | trivial)
        obtain ⟨q1, q2, q3, q4⟩ := F1.out (by first | rfl | trivial)
        subst h2 h3
        have SM := Lib.hid (fun j => sumN_take_le (l := l) (fun b hb => (q3 b hb).1) j)
        have S0 := Lib.hid (fun j => sumN_nonneg (l := l.take j) (fun b hb => (q3 b (List.mem_of_mem_take hb)).1))
        have Q1 := Lib.hid q1; have Q2 := Lib.hid q2; have Q3 := Lib.hid q3
        obtain ⟨tot, htot⟩ : ∃ z, sumN l = z := ⟨_, rfl⟩
        rw [htot] at q4 Q1 SM
        have HTOT := Lib.hid htot
        clear q1 q2 q3 HO HSW F0 F1 htot K35 K39 X1 X2
        go_wp2
        go_loopw [10, 54] (fun s10 s54 wr => ∃ j : Nat, j ≤ c ∧ s54 = .int .i64 j ∧ s10 = .int .i64 (sumN (l.take j)) ∧ Hid (Below w9.heap.size w9 wr)) (fun _ s54 _ => c - (RowKit.intOf s54).toNat)
        case atStart => exact ⟨0, Nat.zero_le _, rfl, by simp [sumN], Lib.hid (Below.refl _ _)⟩
        case round =>
          obtain ⟨j, hjn, rfl, rfl, BJ⟩ := hrel
          have sj := SM.out j
          have s0j := S0.out j
          obtain ⟨sv, hsv⟩ : ∃ z, sumN (l.take j) = z := ⟨_, rfl⟩
          rw [hsv] at sj s0j ⊢
          have HSV := Lib.hid hsv; clear hsv
          by_cases hj : j < c
          · have j1 : (j : Int) < (c : Int) := by omega
            obtain ⟨⟨p1, p2, p3⟩, hp⟩ : ∃ p, l[j]? = some p := ⟨_, List.getElem?_eq_getElem (by rw [HN.out]; exact hj)⟩
            obtain ⟨b', o', eA, _, hc⟩ := (UL.out.below BJ.out).cells HN.out (by omega)
            have eA' := Option.some.inj eA
            simp only [Addr.mk.injEq] at eA'
            obtain ⟨rfl, rfl, _⟩ := eA'
            obtain ⟨g0, g1, g2⟩ := blk_cells hc hp
            simp only at g0 g1 g2
            have hN1 := Q3.out _ (List.mem_of_getElem? hp)
            have hst := sumN_take j _ hp
            simp only at hN1 hst
            rw [HSV.out] at hst
            have HST := Lib.hid hst
            have hwr : IntKind.i64.wrap (sv + p3) = sv + p3 := by rw [IntKind.wrap_i64]; omega
            have hal : Hid (Below w9.heap.size w9 (wr.alloc (.cells #[.string p1, .string p2, .int .i64 p3] 43))) := Lib.hid (BJ.out.alloc BJ.out.size _)
            clear hc hp hst eA
            go_wp2
            exact ⟨⟨j + 1, by omega, by go_num, by rw [HST.out], hal⟩, by simp [RowKit.intOf]; omega⟩
          · obtain rfl : j = c := by omega
            have es : sv = tot := by rw [← HSV.out, ← HTOT.out, List.take_of_length_le (by rw [HN.out]; exact Nat.le_refl _)]
            have et : TX = sv := by rw [es]; exact Q1.out
            have ek : KX = 0 := Q2.out
            subst et ek
            have RJ := Lib.hid (RX.out.below BJ.out); have SJ := Lib.hid (R9.out.below BJ.out); have KJ : Hid (Okw wr) := Lib.hid (K9.out.below BJ.out)
            have BWJ : Hid (Below w.heap.size w wr) := Lib.hid (BW9.out.trans (BJ.out.mono BW9.out.size))
            clear es Q1 Q2 HSV
            go_wp2_with fail
            refine (TT.out HG.out _ _ KJ.out RJ.out).mono ?_
            rintro e wB ⟨rfl, bB⟩
            have RB := Lib.hid (RJ.out.below bB); have KB : Hid (Okw wB) := Lib.hid (KJ.out.below bB)
            have cs := refSame5_any _ _ X X wB (RJ.out.below bB) (SJ.out.below bB)
            rw [decide_eq_true rfl] at cs
            have CS := Lib.hid cs
            have BB := Lib.hid (BWJ.out.trans (bB.mono BWJ.out.size)); clear bB cs
            go_wp2_with fail
            refine CS.out.mono ?_
            rintro e wC ⟨rfl, kC, rfl⟩
            obtain ⟨wC, hwC⟩ : ∃ z, z = wB.drewN kC := ⟨_, rfl⟩
            have bC : Below wB.heap.size wB wC := by rw [hwC]; exact below_draws (Below.refl _ _) _
            have RC := Lib.hid (RB.out.below bC); have KC : Hid (Okw wC) := Lib.hid (KB.out.below bC)
            have BC := Lib.hid (BB.out.trans (bC.mono BB.out.size))
            rw [← hwC]
            clear bC hwC
            go_wp2_with fail
            refine (TC.out HG.out _ _ KC.out RC.out).mono ?_
            rintro e wD ⟨rfl, bD⟩
            have BD := Lib.hid (BC.out.trans (bD.mono BC.out.size)); clear bD
            go_wp2
            go_ret
            exact ⟨rfl, BD.out⟩
      · have h2 : eb ≠ 0 := fun e => h1 (HO.1.2 e)
        have h1' : (ea == 0) = false := by simpa using h1
        have h2' : (eb == 0) = false := by simpa using h2
        have h2'' : (eb != 0) = true := by simpa using h2
        have h1'' : (ea != 0) = true := by simpa using h1
        have hx0 : nx = 0 := by rw [← HNX.out, F0.out h1]; rfl
        subst hx0
        clear HO HSW F0 F1
        go_wp2
        go_ret
        exact ⟨rfl, BW9.out⟩
    · have r4 : ¬ c = k := hck
      have X1 : Hid (BRuns w3.drew (.slice (some ⟨b, o + k * 3, none⟩) (n - k) (c - k)) P1) := Lib.hid (by rw [← HP1.out]; exact (runs_from U3.out HN.out k hkl).below (Below.refl _ _).drew)
      have X2 : Hid (BRuns w3 (.slice (some ⟨b, o, none⟩) k c) P2) := Lib.hid (by rw [← HP2.out]; exact U3.out.front HN.out k hkl)
      go_wp2
      go_region_law (first
        | (refine step_append_blks rfl (.tmp 31) (.tmp 34) w3.heap.size 0 [] P1 (by exact own_litB _ _ (Nat.le_refl _)) (by exact X1.out.below (blw_1 _ _)) rfl rfl (by go_simp) (by go_simp) (by simp) (by rw [HL1.out]; omega) ?_; intro v35 w35 h35 k35 j35; have K35 : Hid (OrdK w3 v35 P1 w35) := Lib.hid (OrdK.one (fun b hb => by simp [Value.ownBlock] at hb; omega) h35 k35); clear h35 k35 j35)
        | (refine step_append_blks rfl (.tmp 35) (.tmp 38) w3.heap.size P1.length (gCells blkCell P1) P2 (by exact K35.out.own) (by exact X2.out.below K35.out.bel) rfl rfl (by go_simp) (by go_simp) (by exact K35.out.bel.size) (by rw [HL1.out, HL2.out]; omega) ?_; intro v39 w39 h39 k39 j39; have K39 : Hid (OrdK w3 v39 (P1 ++ P2) w39) := Lib.hid (OrdK.two K35.out h39 k39); clear h39 k39 j39)
        | (refine step_go_call rfl 12 (.tmp 39) 22 rfl eg (by go_simp) (T2'.out HG.out _ w39 (K3.out.below K39.out.bel) (GRuns.of_own blk_ln rfl K39.out.own)) ?_; rintro e w9 ⟨y, rfl, r9, b9⟩; refine ⟨_, rfl, ?_⟩; obtain ⟨A9, c9, e9⟩ := r9.slice; rw [HNY.out] at e9; subst e9; have R9 := Lib.hid r9; have B9 := Lib.hid (K39.out.bel.trans (b9.mono K39.out.bel.size)); clear r9 b9))
      simp only [Act.put, List.getElem_toArray, List.getElem_cons_zero, List.getElem_cons_succ, List.setIfInBounds_toArray, List.set_cons_succ, List.set_cons_zero]
      have RX := Lib.hid (R3.out.below B9.out); have K9 : Hid (Okw w9) := Lib.hid (K3.out.below B9.out); have UL := Lib.hid (U3.out.below B9.out)
      have BW9 : Hid (Below w.heap.size w w9) := Lib.hid (B3.out.trans (B9.out.mono B3.out.size))
      have HO := HSW.out
      by_cases h1 : ea = 0
      · subst h1
        have h2 : eb = 0 := HO.1.1 (by first | rfl | trivial)
        have h3 : X = Y := HO.2 (by first | rfl | trivial)
        obtain ⟨q1, q2, q3, q4⟩ := F1.out (by first | rfl | trivial)
        subst h2 h3
        have SM := Lib.hid (fun j => sumN_take_le (l := l) (fun b hb => (q3 b hb).1) j)
        have S0 := Lib.hid (fun j => sumN_nonneg (l := l.take j) (fun b hb => (q3 b (List.mem_of_mem_take hb)).1))
        have Q1 := Lib.hid q1; have Q2 := Lib.hid q2; have Q3 := Lib.hid q3
        obtain ⟨tot, htot⟩ : ∃ z, sumN l = z := ⟨_, rfl⟩
        rw [htot] at q4 Q1 SM
        have HTOT := Lib.hid htot
        clear q1 q2 q3 HO HSW F0 F1 htot K35 K39 X1 X2
        go_wp2
        go_loopw [10, 54] (fun s10 s54 wr => ∃ j : Nat, j ≤ n ∧ s54 = .int .i64 j ∧ s10 = .int .i64 (sumN (l.take j)) ∧ Hid (Below w9.heap.size w9 wr)) (fun _ s54 _ => n - (RowKit.intOf s54).toNat)
        case atStart => exact ⟨0, Nat.zero_le _, rfl, by simp [sumN], Lib.hid (Below.refl _ _)⟩
        case round =>
          obtain ⟨j, hjn, rfl, rfl, BJ⟩ := hrel
          have sj := SM.out j
          have s0j := S0.out j
          obtain ⟨sv, hsv⟩ : ∃ z, sumN (l.take j) = z := ⟨_, rfl⟩
          rw [hsv] at sj s0j ⊢
          have HSV := Lib.hid hsv; clear hsv
          by_cases hj : j < n
          · have j1 : (j : Int) < (n : Int) := by omega
            obtain ⟨⟨p1, p2, p3⟩, hp⟩ : ∃ p, l[j]? = some p := ⟨_, List.getElem?_eq_getElem (by rw [HN.out]; exact hj)⟩
            obtain ⟨b', o', eA, _, hc⟩ := (UL.out.below BJ.out).cells HN.out (by omega)
            have eA' := Option.some.inj eA
            simp only [Addr.mk.injEq] at eA'
            obtain ⟨rfl, rfl, _⟩ := eA'
            obtain ⟨g0, g1, g2⟩ := blk_cells hc hp
            simp only at g0 g1 g2
            have hN1 := Q3.out _ (List.mem_of_getElem? hp)
            have hst := sumN_take j _ hp
            simp only at hN1 hst
            rw [HSV.out] at hst
            have HST := Lib.hid hst
            have hwr : IntKind.i64.wrap (sv + p3) = sv + p3 := by rw [IntKind.wrap_i64]; omega
            have hal : Hid (Below w9.heap.size w9 (wr.alloc (.cells #[.string p1, .string p2, .int .i64 p3] 43))) := Lib.hid (BJ.out.alloc BJ.out.size _)
            clear hc hp hst eA
            go_wp2
            exact ⟨⟨j + 1, by omega, by go_num, by rw [HST.out], hal⟩, by simp [RowKit.intOf]; omega⟩
          · obtain rfl : j = n := by omega
            have es : sv = tot := by rw [← HSV.out, ← HTOT.out, List.take_of_length_le (by rw [HN.out]; exact Nat.le_refl _)]
            have et : TX = sv := by rw [es]; exact Q1.out
            have ek : KX = 0 := Q2.out
            subst et ek
            have RJ := Lib.hid (RX.out.below BJ.out); have SJ := Lib.hid (R9.out.below BJ.out); have KJ : Hid (Okw wr) := Lib.hid (K9.out.below BJ.out)
            have BWJ : Hid (Below w.heap.size w wr) := Lib.hid (BW9.out.trans (BJ.out.mono BW9.out.size))
            clear es Q1 Q2 HSV
            go_wp2_with fail
            refine (TT.out HG.out _ _ KJ.out RJ.out).mono ?_
            rintro e wB ⟨rfl, bB⟩
            have RB := Lib.hid (RJ.out.below bB); have KB : Hid (Okw wB) := Lib.hid (KJ.out.below bB)
            have cs := refSame5_any _ _ X X wB (RJ.out.below bB) (SJ.out.below bB)
            rw [decide_eq_true rfl] at cs
            have CS := Lib.hid cs
            have BB := Lib.hid (BWJ.out.trans (bB.mono BWJ.out.size)); clear bB cs
            go_wp2_with fail
            refine CS.out.mono ?_
            rintro e wC ⟨rfl, kC, rfl⟩
            obtain ⟨wC, hwC⟩ : ∃ z, z = wB.drewN kC := ⟨_, rfl⟩
            have bC : Below wB.heap.size wB wC := by rw [hwC]; exact below_draws (Below.refl _ _) _
            have RC := Lib.hid (RB.out.below bC); have KC : Hid (Okw wC) := Lib.hid (KB.out.below bC)
            have BC := Lib.hid (BB.out.trans (bC.mono BB.out.size))
            rw [← hwC]
            clear bC hwC
            go_wp2_with fail
            refine (TC.out HG.out _ _ KC.out RC.out).mono ?_
            rintro e wD ⟨rfl, bD⟩
            have BD := Lib.hid (BC.out.trans (bD.mono BC.out.size)); clear bD
            go_wp2
            go_ret
            exact ⟨rfl, BD.out⟩
      · have h2 : eb ≠ 0 := fun e => h1 (HO.1.2 e)
        have h1' : (ea == 0) = false := by simpa using h1
        have h2' : (eb == 0) = false := by simpa using h2
        have h2'' : (eb != 0) = true := by simpa using h2
        have h1'' : (ea != 0) = true := by simpa using h1
        have hx0 : nx = 0 := by rw [← HNX.out, F0.out h1]; rfl
        subst hx0
        clear HO HSW F0 F1
        go_wp2
        go_ret
        exact ⟨rfl, BW9.out⟩
end Go.Proofs.YtmfmbmlfdlebfaaDoor
