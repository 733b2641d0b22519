/- RuleOnce, walked over what rule's functions answer. -/
import Derived.Test.YtnognphjndpgkaaDoorVNor
namespace Go.Proofs.YtnognphjndpgkaaDoor
open Go.RowKit Go.Shelf
set_option linter.unusedSimpArgs false
set_option linter.unusedVariables false

/-- What is known behind the appends. -/
structure OnK (W : World) (v : Value) (Y : List Blk) (W' : World) : Prop where
  own : W'.ownsRow W.heap.size 24 3 v Y.length (gCells blkCell Y)
  bel : Below W.heap.size W W'
theorem OnK.one {W W' : World} {v v' : Value} {ys : List Blk} {o : Obj} (hv : ∀ b, v.ownBlock = some b → W.heap.size ≤ b)
    (h1 : W'.ownsRow W.heap.size 24 3 v' (0 + ys.length) ([] ++ gCells blkCell ys)) (h2 : (W.drew.alloc o).grownBy W' v.ownBlock) : OnK W v' ys W' :=
  ⟨by simpa using h1, ((Below.refl W.heap.size W).drew.alloc (Nat.le_refl _) o).grown h2 (by simp) hv⟩
theorem OnK.two {W W' W'' : World} {v v' : Value} {xs ys : List Blk} (h : OnK W v xs W')
    (h1 : W''.ownsRow W.heap.size 24 3 v' (xs.length + ys.length) (gCells blkCell xs ++ gCells blkCell ys)) (h2 : W'.grownBy W'' v.ownBlock) : OnK W v' (xs ++ ys) W'' :=
  ⟨by rw [List.length_append, gCells_append]; exact h1, h.bel.grown h2 h.bel.size (fun k hk => (h.own.lt k hk).1)⟩
/-- The part of a slice from a place on. -/
theorem rruns_from {w : World} {b o n c : Nat} {l : List Blk} (h : BRuns w (.slice (some ⟨b, o, none⟩) n c) l) (hn : l.length = n) (k : Nat) (hk : k ≤ n) : BRuns w (.slice (some ⟨b, o + k * 3, none⟩) (n - k) (c - k)) (l.drop k) := by
  rcases Nat.lt_or_ge k n with h0 | h0
  · exact h.back hn k h0
  · have e : l.drop k = [] := List.drop_eq_nil_of_le (by omega)
    have e3 : n - k = 0 := by omega
    rw [e, e3]
    obtain ⟨A, c', e', h1, h2, _⟩ := h
    obtain ⟨_, _, rfl⟩ := Value.slice.inj e'
    exact GRuns.none_ (by omega) (fun h => by cases h)
theorem lst_take {l : List Blk} (k : Nat) (x key : Blk) (h : l[k]? = some x) (hc : x.2.2 ≤ 255) : lst (l.take (k + 1)) key = if sameS x key then min (lst (l.take k) key) x.2.2 else lst (l.take k) key := by
  have := lst_le (l.take k) key
  rw [List.take_add_one, h, lst_append]
  show min _ (lst [x] key) = _
  rw [lst_cons, lst_nil]
  split <;> omega
/-- What Find answers of each rule that was told. -/
theorem nor_rf {l : List Blk} (h : norE l = 0) : ∀ r ∈ l, rfS (norS l) (r.1, r.2.1, 0) = lst l r ∧ rfE (norS l) (r.1, r.2.1, 0) = 0 := fun r hr => by
  obtain ⟨h1, h2⟩ := nor_find h r hr
  have h3 := nor_is h
  have e : lst (norS l) (r.1, r.2.1, 0) = lst l r := by rw [← h1]; exact lst_key (a := (r.1, r.2.1, 0)) (b := r) ⟨rfl, rfl⟩
  unfold rfS rfE
  rw [if_pos h3, if_pos h3, e, if_neg (by omega), if_neg (by omega)]
  exact ⟨rfl, rfl⟩

set_option maxRecDepth 100000 in
set_option maxHeartbeats 32000000 in
theorem ruleOnce_walk (u : Value) (l : List Blk) (a : Nat) (ha : a < 65536) (w : World) (h : Okw w) (hu : BRuns w u l) (hz : szM l) :
    Calls Tryd.prog 6 #[u, .int .u16 (a : Int)] w (RetTrue w) := by
  have g1 := fun w hu => great7_det u l w hu hz
  have t1 := fun (hg : grB l = false) w hO hu => rnormal_any u l w hO hu (by have := (grB_no hg).1; omega) (grB_no hg).szL
  have t0 := fun (hg : grB l = false) w hO hu => ris_any u l w hO hu (by have := (grB_no hg).1; omega) (grB_no hg).szL
  have hcap : ∃ A c, u = .slice A l.length c ∧ l.length ≤ c ∧ c ≤ maxLen ∧ (A = none → c = 0) := by
    obtain ⟨A, c, e, h1, h2, _⟩ := hu
    exact ⟨A, c, e, h1, h2.1, h2.2⟩
  obtain ⟨A, c, e, hc1, hc2, hc3⟩ := hcap
  subst e
  obtain ⟨k, hk⟩ : ∃ k, a % (l.length + 1) = k := ⟨_, rfl⟩
  have hkl : k ≤ l.length := by rw [← hk]; exact Nat.lt_succ_iff.1 (Nat.mod_lt _ (by omega))
  have t2 := fun (hg : grB l = false) x w hO hx => rnormal_any x (l.drop k ++ l.take k) w hO hx (by have := (grB_no hg).1; simp; omega) (fun z hz => by rcases List.mem_append.1 hz with h | h; exact (grB_no hg).szL z (List.mem_of_mem_drop h); exact (grB_no hg).szL z (List.mem_of_mem_take h))
  have hsw := nor_swap (l.take k) (l.drop k)
  rw [List.take_append_drop] at hsw
  have t3 := fun (hg : grB l = false) x w hO hx => rnormal_any x (norS l) w hO hx (by have := (grB_no hg).1; have := norS_len l; omega) (szL_nor (grB_no hg).szL)
  have t4 := fun (hg : grB l = false) x w hO hx => ris_any x (norS l) w hO hx (by have := (grB_no hg).1; have := norS_len l; omega) (szL_nor (grB_no hg).szL)
  have t5 := fun (hg : grB l = false) x p q w hO hx => rfind_any x (norS l) p q w hO hx (by have := (grB_no hg).1; have := norS_len l; omega) (szL_nor (grB_no hg).szL)
  have f0 : norE l ≠ 0 → norS l = [] ∧ risS l ≠ 0 := nor_no
  have f1 : norE l = 0 → risS (norS l) = 0 ∧ norE (norS l) = 0 ∧ norS (norS l) = norS l ∧ costB l ∧ ∀ r ∈ l, rfS (norS l) (r.1, r.2.1, 0) = lst l r ∧ rfE (norS l) (r.1, r.2.1, 0) = 0 := fun h => ⟨nor_is h, (nor_again h).1, (nor_again h).2, costB_of (norE_facts h).1, nor_rf h⟩
  obtain ⟨gr, hgr⟩ : ∃ z, grB l = z := ⟨_, rfl⟩
  obtain ⟨ea, hea⟩ : ∃ z, norE l = z := ⟨_, rfl⟩
  obtain ⟨X, hX⟩ : ∃ z, norS l = z := ⟨_, rfl⟩
  obtain ⟨eb, heb⟩ : ∃ z, norE (l.drop k ++ l.take k) = z := ⟨_, rfl⟩
  obtain ⟨Y, hY⟩ : ∃ z, norS (l.drop k ++ l.take k) = z := ⟨_, rfl⟩
  obtain ⟨il, hil⟩ : ∃ z, risS l = z := ⟨_, rfl⟩
  have hg5 : gr = false → l.length ≤ 500 := fun e => (grB_no (hgr.trans e)).1
  simp only [hgr] at g1 t0 t1 t2 t3 t4 t5
  simp only [hea, hX, heb, hY, hil] at t0 t1 t2 t3 t4 t5 hsw f0 f1
  obtain ⟨EX, hEX⟩ : ∃ z, norE X = z := ⟨_, rfl⟩
  obtain ⟨XX, hXX⟩ : ∃ z, norS X = z := ⟨_, rfl⟩
  obtain ⟨IX, hIX⟩ : ∃ z, risS X = z := ⟨_, rfl⟩
  simp only [hEX, hXX, hIX] at t3 t4 f1
  obtain ⟨n, hn⟩ : ∃ n, l.length = n := ⟨_, rfl⟩
  rw [hn] at hc1 hk hkl hu g1 t1 t0 hg5 ⊢
  unfold maxLen at hc2
  have hmod : ((a : Int)).tmod ((n : Int) + 1) = (k : Int) := by
    rw [Int.tmod_eq_emod_of_nonneg (by omega), ← hk]; simp
  have hwa : IntKind.i64.wrap (a : Int) = (a : Int) := by rw [IntKind.wrap_i64]; omega
  have hwn : n ≤ 500 → IntKind.i64.wrap ((n : Int) + 1) = (n : Int) + 1 := fun _ => by rw [IntKind.wrap_i64]; omega
  have hn0 : ¬ (n : Int) + 1 = 0 := by omega
  have HU := Lib.hid hu; have G1 := Lib.hid g1; have T1 := Lib.hid t1; have T0 := Lib.hid t0; have T2 := Lib.hid t2; have HSW := Lib.hid hsw; have T3 := Lib.hid t3; have T4 := Lib.hid t4; have T5 := Lib.hid t5; have F0 := Lib.hid f0; have F1 := Lib.hid f1; have HN := Lib.hid hn; have HMOD := Lib.hid hmod; have HG5 := Lib.hid hg5
  clear hu g1 t1 t0 t2 hsw t3 t4 t5 f0 f1 hn hea hX heb hY hEX hXX hIX hil hgr hz hk hg5 hmod
  go_enter Tryd.func6, Tryd.ntmps6
  go_wp2_with fail
  refine (alive7_any _ h).mono ?_
  rintro e w1 ⟨rfl, b1⟩
  have U1 := Lib.hid (HU.out.below b1); have K1 : Hid (Okw w1) := Lib.hid (h.below b1)
  have B1 := Lib.hid b1; clear b1
  go_wp2_with fail
  refine (G1.out _ U1.out).mono ?_
  rintro e w2 ⟨rfl, b2⟩
  have U2 := Lib.hid (U1.out.below b2); have K2 : Hid (Okw w2) := Lib.hid (K1.out.below b2)
  have B2 := Lib.hid (B1.out.trans (b2.mono B1.out.size)); clear b2
  cases gr
  rotate_left
  · go_wp2
    go_ret
    exact ⟨rfl, B2.out⟩
  have hn5 : n ≤ 500 := HG5.out (by first | rfl | trivial)
  have hwn' := hwn hn5
  have T0' := Lib.hid (T0.out (by first | rfl | trivial)); have T1' := Lib.hid (T1.out (by first | rfl | trivial)); have T2' := Lib.hid (T2.out (by first | rfl | trivial)); have T3' := Lib.hid (T3.out (by first | rfl | trivial)); have T4' := Lib.hid (T4.out (by first | rfl | trivial)); have T5' := Lib.hid (T5.out (by first | rfl | trivial))
  clear hwn T0 T1 T2 T3 T4 T5 HG5
  go_wp2_with fail
  refine (T1'.out _ K2.out U2.out).mono ?_
  rintro e w3 ⟨va, rfl, r3, b3⟩
  obtain ⟨Aa, ka, e3⟩ := r3.slice
  obtain ⟨nx, hnx⟩ : ∃ z, X.length = z := ⟨_, rfl⟩
  rw [hnx] at e3
  subst e3
  have R3 := Lib.hid r3
  have U3 := Lib.hid (U2.out.below b3); have K3 : Hid (Okw w3) := Lib.hid (K2.out.below b3)
  have B3 := Lib.hid (B2.out.trans (b3.mono B2.out.size)); clear b3 r3
  have HNX := Lib.hid hnx; clear hnx
  clear U1 U2 K1 K2 B1 B2 G1 T1'
  by_cases h1 : ea = 0
  rotate_left
  · have h1' : (ea == 0) = false := by simpa using h1
    obtain ⟨q1, q2⟩ := F0.out h1
    have hx0 : nx = 0 := by rw [← HNX.out, q1]; rfl
    subst hx0
    have q2' : (il == 0) = false := by simpa using q2
    have q2'' : (il != 0) = true := by simpa using q2
    clear F0 F1 HSW q1
    go_wp2_with fail
    refine (T0'.out _ K3.out U3.out).mono ?_
    rintro e w4 ⟨rfl, b4⟩
    have B4 := Lib.hid (B3.out.trans (b4.mono B3.out.size)); clear b4
    go_wp2
    go_ret
    exact ⟨rfl, B4.out⟩
  subst h1
  have h2 : eb = 0 := HSW.out.1.1 (by first | rfl | trivial)
  have h3 : X = Y := HSW.out.2 (by first | rfl | trivial)
  obtain ⟨q1, q2, q3, q4, q5⟩ := F1.out (by first | rfl | trivial)
  subst h2 h3 q1 q2
  rw [q3] at T3'
  have Q4 := Lib.hid q4; have Q5 := Lib.hid q5
  clear HSW F0 F1 T0' q4 q5
  have hmod' := HMOD.out
  have r1 : (k : Int) ≤ (c : Int) := by omega
  have r2 : (n : Int) ≤ (c : Int) := by omega
  have r3 : (k : Int) ≤ (n : Int) := by omega
  have r0 : (0 : Int) ≤ (k : Int) := by omega
  have hmix : Tryd.prog.follows .mixedOrders = true := by kernel_rfl
  have eg : ∀ args w, (callFunc 16 args).run Tryd.prog w = .ok (.enter 16 args) w := enters_of Tryd.func16 (by kernel_rfl) rfl
  have hpl1 : (l.drop k).length = n - k := by rw [List.length_drop, HN.out]
  have hpl2 : (l.take k).length = k := by rw [List.length_take, HN.out]; omega
  obtain ⟨P1, hP1⟩ : ∃ z, l.drop k = z := ⟨_, rfl⟩
  obtain ⟨P2, hP2⟩ : ∃ z, l.take k = z := ⟨_, rfl⟩
  rw [hP1] at hpl1
  rw [hP2] at hpl2
  have HL1 := Lib.hid hpl1; have HL2 := Lib.hid hpl2; have HP1 := Lib.hid hP1; have HP2 := Lib.hid hP2
  have t2' := T2'.out
  simp only [hP1, hP2] at t2'
  have T2n := Lib.hid t2'
  clear T2' t2' hpl1 hpl2 hP1 hP2
  by_cases hn0' : n = 0
  · subst hn0'
    have hl0 : l = [] := List.eq_nil_of_length_eq_zero HN.out
    obtain rfl : k = 0 := by omega
    have D0 : Hid (∀ (W : World) (A' : Option Addr) (c' : Nat), c' ≤ 2 ^ 63 - 1 → (A' = none → c' = 0) → BRuns W (.slice A' 0 c') P1 ∧ BRuns W (.slice A' 0 c') P2) := Lib.hid (fun W A' c' h1 h2 => by rw [← HP1.out, ← HP2.out, hl0]; exact ⟨GRuns.none_ h1 h2, GRuns.none_ h1 h2⟩)
    clear hl0
    cases A with
    | none =>
      obtain rfl : c = 0 := hc3 rfl
      have X1 := Lib.hid (D0.out w3.drew none 0 (by omega) (fun _ => rfl)).1
      have X2 := Lib.hid (D0.out w3 none 0 (by omega) (fun _ => rfl)).2
      go_wp2
      go_region_law (first
        | (refine step_append_rules rfl (.tmp 45) (.tmp 48) w3.heap.size 0 [] P1 (by exact own_litR _ _ (Nat.le_refl _)) (by exact X1.out.below (blw_1 _ _)) rfl rfl (by go_simp) (by go_simp) (by simp) (by rw [HL1.out]; omega) ?_; intro v35 w35 h35 k35 j35; have K35 : Hid (OnK w3 v35 P1 w35) := Lib.hid (OnK.one (fun b hb => by simp [Value.ownBlock] at hb; omega) h35 k35); clear h35 k35 j35)
        | (refine step_append_rules rfl (.tmp 49) (.tmp 52) w3.heap.size P1.length (gCells blkCell P1) P2 (by exact K35.out.own) (by exact X2.out.below K35.out.bel) rfl rfl (by go_simp) (by go_simp) (by exact K35.out.bel.size) (by rw [HL1.out, HL2.out]; omega) ?_; intro v39 w39 h39 k39 j39; have K39 : Hid (OnK w3 v39 (P1 ++ P2) w39) := Lib.hid (OnK.two K35.out h39 k39); clear h39 k39 j39)
        | (refine step_call_one rfl 16 (.tmp 53) 22 rfl eg (by go_simp) (T2n.out _ w39 (K3.out.below K39.out.bel) (GRuns.of_own rl_ln rfl K39.out.own)) ?_; rintro e w9 ⟨y, rfl, r9, b9⟩; refine ⟨_, rfl, ?_⟩; obtain ⟨A9, c9, e9⟩ := r9.slice; rw [HNX.out] at e9; subst e9; have R9 := Lib.hid r9; have B9 := Lib.hid (K39.out.bel.trans (b9.mono K39.out.bel.size)); clear r9 b9))
      simp only [Act.put, List.getElem_toArray, List.getElem_cons_zero, List.getElem_cons_succ, List.setIfInBounds_toArray, List.set_cons_succ, List.set_cons_zero]
      have RX := Lib.hid (R3.out.below B9.out); have K9 : Hid (Okw w9) := Lib.hid (K3.out.below B9.out); have U9 := Lib.hid (U3.out.below B9.out)
      have BW9 : Hid (Below w.heap.size w w9) := Lib.hid (B3.out.trans (B9.out.mono B3.out.size))
      clear K35 K39 X1 X2 R3 K3 U3 B3 B9 T2n HP1 HP2 HL1 HL2
      go_wp2_with fail
      refine (T3'.out _ _ K9.out RX.out).mono ?_
      rintro e wA ⟨vc, rfl, rA, bA⟩
      obtain ⟨AA, kA, eA⟩ := rA.slice
      rw [HNX.out] at eA
      subst eA
      have RA := Lib.hid rA; have RXA := Lib.hid (RX.out.below bA); have R9A := Lib.hid (R9.out.below bA); have KA : Hid (Okw wA) := Lib.hid (K9.out.below bA); have UA := Lib.hid (U9.out.below bA)
      have BA := Lib.hid (BW9.out.trans (bA.mono BW9.out.size))
      clear bA rA RX R9 K9 U9 BW9 T3'
      go_wp2_with fail
      refine (T4'.out _ _ KA.out RXA.out).mono ?_
      rintro e wB ⟨rfl, bB⟩
      have RB := Lib.hid (RA.out.below bB); have RXB := Lib.hid (RXA.out.below bB); have R9B := Lib.hid (R9A.out.below bB); have KB : Hid (Okw wB) := Lib.hid (KA.out.below bB); have UB := Lib.hid (UA.out.below bB)
      have BB := Lib.hid (BA.out.trans (bB.mono BA.out.size))
      clear bB RA RXA R9A KA UA BA T4'
      have cs := refSame7_any _ _ X X wB RXB.out R9B.out
      rw [decide_eq_true rfl] at cs
      have CS := Lib.hid cs; clear cs
      go_wp2_with fail
      refine CS.out.mono ?_
      rintro e wC ⟨rfl, kC, rfl⟩
      obtain ⟨wC, hwC⟩ : ∃ z, z = wB.drewN kC := ⟨_, rfl⟩
      have bC : Below wB.heap.size wB wC := by rw [hwC]; exact below_draws (Below.refl _ _) _
      have RC := Lib.hid (RB.out.below bC); have RXC := Lib.hid (RXB.out.below bC); have KC : Hid (Okw wC) := Lib.hid (KB.out.below bC); have UC := Lib.hid (UB.out.below bC)
      have BC := Lib.hid (BB.out.trans (bC.mono BB.out.size))
      rw [← hwC]
      clear bC hwC CS RB RXB R9B KB UB BB
      have cs := refSame7_any _ _ X X wC RXC.out RC.out
      rw [decide_eq_true rfl] at cs
      have CS := Lib.hid cs; clear cs
      go_wp2_with fail
      refine CS.out.mono ?_
      rintro e wD ⟨rfl, kD, rfl⟩
      obtain ⟨wD, hwD⟩ : ∃ z, z = wC.drewN kD := ⟨_, rfl⟩
      have bD : Below wC.heap.size wC wD := by rw [hwD]; exact below_draws (Below.refl _ _) _
      have RXD := Lib.hid (RXC.out.below bD); have KD : Hid (Okw wD) := Lib.hid (KC.out.below bD); have UD := Lib.hid (UC.out.below bD)
      have BD := Lib.hid (BC.out.trans (bD.mono BC.out.size))
      rw [← hwD]
      clear bD hwD CS RC RXC KC UC BC
      go_wp2
      go_loopw [87] (fun s87 wr => ∃ j : Nat, j ≤ 0 ∧ s87 = .int .i64 j ∧ Hid (Below wD.heap.size wD wr)) (fun s87 _ => 0 - (RowKit.intOf s87).toNat)
      case atStart => exact ⟨0, Nat.zero_le _, rfl, Lib.hid (Below.refl _ _)⟩
      case round =>
        obtain ⟨j, hjn, rfl, BJ⟩ := hrel
        obtain rfl : j = 0 := by omega
        have BE := Lib.hid (BD.out.trans (BJ.out.mono BD.out.size))
        go_wp2
        go_ret
        exact ⟨rfl, BE.out⟩
    | some ad =>
      obtain ⟨ab, ao, asp⟩ := ad
      by_cases hck : c = 0
      · subst hck
        have X1 := Lib.hid (D0.out w3.drew (some ⟨ab, ao, asp⟩) 0 (by omega) (fun h => by cases h)).1
        have X2 := Lib.hid (D0.out w3 (some ⟨ab, ao, asp⟩) 0 (by omega) (fun h => by cases h)).2
        go_wp2
        go_region_law (first
          | (refine step_append_rules rfl (.tmp 45) (.tmp 48) w3.heap.size 0 [] P1 (by exact own_litR _ _ (Nat.le_refl _)) (by exact X1.out.below (blw_1 _ _)) rfl rfl (by go_simp) (by go_simp) (by simp) (by rw [HL1.out]; omega) ?_; intro v35 w35 h35 k35 j35; have K35 : Hid (OnK w3 v35 P1 w35) := Lib.hid (OnK.one (fun b hb => by simp [Value.ownBlock] at hb; omega) h35 k35); clear h35 k35 j35)
          | (refine step_append_rules rfl (.tmp 49) (.tmp 52) w3.heap.size P1.length (gCells blkCell P1) P2 (by exact K35.out.own) (by exact X2.out.below K35.out.bel) rfl rfl (by go_simp) (by go_simp) (by exact K35.out.bel.size) (by rw [HL1.out, HL2.out]; omega) ?_; intro v39 w39 h39 k39 j39; have K39 : Hid (OnK w3 v39 (P1 ++ P2) w39) := Lib.hid (OnK.two K35.out h39 k39); clear h39 k39 j39)
          | (refine step_call_one rfl 16 (.tmp 53) 22 rfl eg (by go_simp) (T2n.out _ w39 (K3.out.below K39.out.bel) (GRuns.of_own rl_ln rfl K39.out.own)) ?_; rintro e w9 ⟨y, rfl, r9, b9⟩; refine ⟨_, rfl, ?_⟩; obtain ⟨A9, c9, e9⟩ := r9.slice; rw [HNX.out] at e9; subst e9; have R9 := Lib.hid r9; have B9 := Lib.hid (K39.out.bel.trans (b9.mono K39.out.bel.size)); clear r9 b9))
        simp only [Act.put, List.getElem_toArray, List.getElem_cons_zero, List.getElem_cons_succ, List.setIfInBounds_toArray, List.set_cons_succ, List.set_cons_zero]
        have RX := Lib.hid (R3.out.below B9.out); have K9 : Hid (Okw w9) := Lib.hid (K3.out.below B9.out); have U9 := Lib.hid (U3.out.below B9.out)
        have BW9 : Hid (Below w.heap.size w w9) := Lib.hid (B3.out.trans (B9.out.mono B3.out.size))
        clear K35 K39 X1 X2 R3 K3 U3 B3 B9 T2n HP1 HP2 HL1 HL2
        go_wp2_with fail
        refine (T3'.out _ _ K9.out RX.out).mono ?_
        rintro e wA ⟨vc, rfl, rA, bA⟩
        obtain ⟨AA, kA, eA⟩ := rA.slice
        rw [HNX.out] at eA
        subst eA
        have RA := Lib.hid rA; have RXA := Lib.hid (RX.out.below bA); have R9A := Lib.hid (R9.out.below bA); have KA : Hid (Okw wA) := Lib.hid (K9.out.below bA); have UA := Lib.hid (U9.out.below bA)
        have BA := Lib.hid (BW9.out.trans (bA.mono BW9.out.size))
        clear bA rA RX R9 K9 U9 BW9 T3'
        go_wp2_with fail
        refine (T4'.out _ _ KA.out RXA.out).mono ?_
        rintro e wB ⟨rfl, bB⟩
        have RB := Lib.hid (RA.out.below bB); have RXB := Lib.hid (RXA.out.below bB); have R9B := Lib.hid (R9A.out.below bB); have KB : Hid (Okw wB) := Lib.hid (KA.out.below bB); have UB := Lib.hid (UA.out.below bB)
        have BB := Lib.hid (BA.out.trans (bB.mono BA.out.size))
        clear bB RA RXA R9A KA UA BA T4'
        have cs := refSame7_any _ _ X X wB RXB.out R9B.out
        rw [decide_eq_true rfl] at cs
        have CS := Lib.hid cs; clear cs
        go_wp2_with fail
        refine CS.out.mono ?_
        rintro e wC ⟨rfl, kC, rfl⟩
        obtain ⟨wC, hwC⟩ : ∃ z, z = wB.drewN kC := ⟨_, rfl⟩
        have bC : Below wB.heap.size wB wC := by rw [hwC]; exact below_draws (Below.refl _ _) _
        have RC := Lib.hid (RB.out.below bC); have RXC := Lib.hid (RXB.out.below bC); have KC : Hid (Okw wC) := Lib.hid (KB.out.below bC); have UC := Lib.hid (UB.out.below bC)
        have BC := Lib.hid (BB.out.trans (bC.mono BB.out.size))
        rw [← hwC]
        clear bC hwC CS RB RXB R9B KB UB BB
        have cs := refSame7_any _ _ X X wC RXC.out RC.out
        rw [decide_eq_true rfl] at cs
        have CS := Lib.hid cs; clear cs
        go_wp2_with fail
        refine CS.out.mono ?_
        rintro e wD ⟨rfl, kD, rfl⟩
        obtain ⟨wD, hwD⟩ : ∃ z, z = wC.drewN kD := ⟨_, rfl⟩
        have bD : Below wC.heap.size wC wD := by rw [hwD]; exact below_draws (Below.refl _ _) _
        have RXD := Lib.hid (RXC.out.below bD); have KD : Hid (Okw wD) := Lib.hid (KC.out.below bD); have UD := Lib.hid (UC.out.below bD)
        have BD := Lib.hid (BC.out.trans (bD.mono BC.out.size))
        rw [← hwD]
        clear bD hwD CS RC RXC KC UC BC
        go_wp2
        go_loopw [87] (fun s87 wr => ∃ j : Nat, j ≤ 0 ∧ s87 = .int .i64 j ∧ Hid (Below wD.heap.size wD wr)) (fun s87 _ => 0 - (RowKit.intOf s87).toNat)
        case atStart => exact ⟨0, Nat.zero_le _, rfl, Lib.hid (Below.refl _ _)⟩
        case round =>
          obtain ⟨j, hjn, rfl, BJ⟩ := hrel
          obtain rfl : j = 0 := by omega
          have BE := Lib.hid (BD.out.trans (BJ.out.mono BD.out.size))
          go_wp2
          go_ret
          exact ⟨rfl, BE.out⟩
      · have X1 := Lib.hid (D0.out w3.drew (some ⟨ab, ao, asp⟩) c (by omega) (fun h => by cases h)).1
        have X2 := Lib.hid (D0.out w3 (some ⟨ab, ao, asp⟩) c (by omega) (fun h => by cases h)).2
        go_wp2
        go_region_law (first
          | (refine step_append_rules rfl (.tmp 45) (.tmp 48) w3.heap.size 0 [] P1 (by exact own_litR _ _ (Nat.le_refl _)) (by exact X1.out.below (blw_1 _ _)) rfl rfl (by go_simp) (by go_simp) (by simp) (by rw [HL1.out]; omega) ?_; intro v35 w35 h35 k35 j35; have K35 : Hid (OnK w3 v35 P1 w35) := Lib.hid (OnK.one (fun b hb => by simp [Value.ownBlock] at hb; omega) h35 k35); clear h35 k35 j35)
          | (refine step_append_rules rfl (.tmp 49) (.tmp 52) w3.heap.size P1.length (gCells blkCell P1) P2 (by exact K35.out.own) (by exact X2.out.below K35.out.bel) rfl rfl (by go_simp) (by go_simp) (by exact K35.out.bel.size) (by rw [HL1.out, HL2.out]; omega) ?_; intro v39 w39 h39 k39 j39; have K39 : Hid (OnK w3 v39 (P1 ++ P2) w39) := Lib.hid (OnK.two K35.out h39 k39); clear h39 k39 j39)
          | (refine step_call_one rfl 16 (.tmp 53) 22 rfl eg (by go_simp) (T2n.out _ w39 (K3.out.below K39.out.bel) (GRuns.of_own rl_ln rfl K39.out.own)) ?_; rintro e w9 ⟨y, rfl, r9, b9⟩; refine ⟨_, rfl, ?_⟩; obtain ⟨A9, c9, e9⟩ := r9.slice; rw [HNX.out] at e9; subst e9; have R9 := Lib.hid r9; have B9 := Lib.hid (K39.out.bel.trans (b9.mono K39.out.bel.size)); clear r9 b9))
        simp only [Act.put, List.getElem_toArray, List.getElem_cons_zero, List.getElem_cons_succ, List.setIfInBounds_toArray, List.set_cons_succ, List.set_cons_zero]
        have RX := Lib.hid (R3.out.below B9.out); have K9 : Hid (Okw w9) := Lib.hid (K3.out.below B9.out); have U9 := Lib.hid (U3.out.below B9.out)
        have BW9 : Hid (Below w.heap.size w w9) := Lib.hid (B3.out.trans (B9.out.mono B3.out.size))
        clear K35 K39 X1 X2 R3 K3 U3 B3 B9 T2n HP1 HP2 HL1 HL2
        go_wp2_with fail
        refine (T3'.out _ _ K9.out RX.out).mono ?_
        rintro e wA ⟨vc, rfl, rA, bA⟩
        obtain ⟨AA, kA, eA⟩ := rA.slice
        rw [HNX.out] at eA
        subst eA
        have RA := Lib.hid rA; have RXA := Lib.hid (RX.out.below bA); have R9A := Lib.hid (R9.out.below bA); have KA : Hid (Okw wA) := Lib.hid (K9.out.below bA); have UA := Lib.hid (U9.out.below bA)
        have BA := Lib.hid (BW9.out.trans (bA.mono BW9.out.size))
        clear bA rA RX R9 K9 U9 BW9 T3'
        go_wp2_with fail
        refine (T4'.out _ _ KA.out RXA.out).mono ?_
        rintro e wB ⟨rfl, bB⟩
        have RB := Lib.hid (RA.out.below bB); have RXB := Lib.hid (RXA.out.below bB); have R9B := Lib.hid (R9A.out.below bB); have KB : Hid (Okw wB) := Lib.hid (KA.out.below bB); have UB := Lib.hid (UA.out.below bB)
        have BB := Lib.hid (BA.out.trans (bB.mono BA.out.size))
        clear bB RA RXA R9A KA UA BA T4'
        have cs := refSame7_any _ _ X X wB RXB.out R9B.out
        rw [decide_eq_true rfl] at cs
        have CS := Lib.hid cs; clear cs
        go_wp2_with fail
        refine CS.out.mono ?_
        rintro e wC ⟨rfl, kC, rfl⟩
        obtain ⟨wC, hwC⟩ : ∃ z, z = wB.drewN kC := ⟨_, rfl⟩
        have bC : Below wB.heap.size wB wC := by rw [hwC]; exact below_draws (Below.refl _ _) _
        have RC := Lib.hid (RB.out.below bC); have RXC := Lib.hid (RXB.out.below bC); have KC : Hid (Okw wC) := Lib.hid (KB.out.below bC); have UC := Lib.hid (UB.out.below bC)
        have BC := Lib.hid (BB.out.trans (bC.mono BB.out.size))
        rw [← hwC]
        clear bC hwC CS RB RXB R9B KB UB BB
        have cs := refSame7_any _ _ X X wC RXC.out RC.out
        rw [decide_eq_true rfl] at cs
        have CS := Lib.hid cs; clear cs
        go_wp2_with fail
        refine CS.out.mono ?_
        rintro e wD ⟨rfl, kD, rfl⟩
        obtain ⟨wD, hwD⟩ : ∃ z, z = wC.drewN kD := ⟨_, rfl⟩
        have bD : Below wC.heap.size wC wD := by rw [hwD]; exact below_draws (Below.refl _ _) _
        have RXD := Lib.hid (RXC.out.below bD); have KD : Hid (Okw wD) := Lib.hid (KC.out.below bD); have UD := Lib.hid (UC.out.below bD)
        have BD := Lib.hid (BC.out.trans (bD.mono BC.out.size))
        rw [← hwD]
        clear bD hwD CS RC RXC KC UC BC
        go_wp2
        go_loopw [87] (fun s87 wr => ∃ j : Nat, j ≤ 0 ∧ s87 = .int .i64 j ∧ Hid (Below wD.heap.size wD wr)) (fun s87 _ => 0 - (RowKit.intOf s87).toNat)
        case atStart => exact ⟨0, Nat.zero_le _, rfl, Lib.hid (Below.refl _ _)⟩
        case round =>
          obtain ⟨j, hjn, rfl, BJ⟩ := hrel
          obtain rfl : j = 0 := by omega
          have BE := Lib.hid (BD.out.trans (BJ.out.mono BD.out.size))
          go_wp2
          go_ret
          exact ⟨rfl, BE.out⟩
  · obtain ⟨b, o, rfl, hbl, _⟩ := U3.out.cells HN.out (by omega)
    by_cases hck : c = k
    · obtain rfl : k = n := by omega
      subst hck
      have X1 : Hid (BRuns w3.drew (.slice (some ⟨b, o, none⟩) 0 0) P1) := Lib.hid (by rw [← HP1.out, List.drop_eq_nil_of_le (by rw [HN.out]; exact Nat.le_refl _)]; exact GRuns.none_ (by simp) (fun h => by cases h))
      have X2 : Hid (BRuns w3 (.slice (some ⟨b, o, none⟩) c c) P2) := Lib.hid (by rw [← HP2.out]; exact U3.out.front HN.out c (Nat.le_refl _))
      go_wp2
      go_region_law (first
        | (refine step_append_rules rfl (.tmp 45) (.tmp 48) w3.heap.size 0 [] P1 (by exact own_litR _ _ (Nat.le_refl _)) (by exact X1.out.below (blw_1 _ _)) rfl rfl (by go_simp) (by go_simp) (by simp) (by rw [HL1.out]; omega) ?_; intro v35 w35 h35 k35 j35; have K35 : Hid (OnK w3 v35 P1 w35) := Lib.hid (OnK.one (fun b hb => by simp [Value.ownBlock] at hb; omega) h35 k35); clear h35 k35 j35)
        | (refine step_append_rules rfl (.tmp 49) (.tmp 52) w3.heap.size P1.length (gCells blkCell P1) P2 (by exact K35.out.own) (by exact X2.out.below K35.out.bel) rfl rfl (by go_simp) (by go_simp) (by exact K35.out.bel.size) (by rw [HL1.out, HL2.out]; omega) ?_; intro v39 w39 h39 k39 j39; have K39 : Hid (OnK w3 v39 (P1 ++ P2) w39) := Lib.hid (OnK.two K35.out h39 k39); clear h39 k39 j39)
        | (refine step_call_one rfl 16 (.tmp 53) 22 rfl eg (by go_simp) (T2n.out _ w39 (K3.out.below K39.out.bel) (GRuns.of_own rl_ln rfl K39.out.own)) ?_; rintro e w9 ⟨y, rfl, r9, b9⟩; refine ⟨_, rfl, ?_⟩; obtain ⟨A9, c9, e9⟩ := r9.slice; rw [HNX.out] at e9; subst e9; have R9 := Lib.hid r9; have B9 := Lib.hid (K39.out.bel.trans (b9.mono K39.out.bel.size)); clear r9 b9))
      simp only [Act.put, List.getElem_toArray, List.getElem_cons_zero, List.getElem_cons_succ, List.setIfInBounds_toArray, List.set_cons_succ, List.set_cons_zero]
      have RX := Lib.hid (R3.out.below B9.out); have K9 : Hid (Okw w9) := Lib.hid (K3.out.below B9.out); have U9 := Lib.hid (U3.out.below B9.out)
      have BW9 : Hid (Below w.heap.size w w9) := Lib.hid (B3.out.trans (B9.out.mono B3.out.size))
      clear K35 K39 X1 X2 R3 K3 U3 B3 B9 T2n HP1 HP2 HL1 HL2
      go_wp2_with fail
      refine (T3'.out _ _ K9.out RX.out).mono ?_
      rintro e wA ⟨vc, rfl, rA, bA⟩
      obtain ⟨AA, kA, eA⟩ := rA.slice
      rw [HNX.out] at eA
      subst eA
      have RA := Lib.hid rA; have RXA := Lib.hid (RX.out.below bA); have R9A := Lib.hid (R9.out.below bA); have KA : Hid (Okw wA) := Lib.hid (K9.out.below bA); have UA := Lib.hid (U9.out.below bA)
      have BA := Lib.hid (BW9.out.trans (bA.mono BW9.out.size))
      clear bA rA RX R9 K9 U9 BW9 T3'
      go_wp2_with fail
      refine (T4'.out _ _ KA.out RXA.out).mono ?_
      rintro e wB ⟨rfl, bB⟩
      have RB := Lib.hid (RA.out.below bB); have RXB := Lib.hid (RXA.out.below bB); have R9B := Lib.hid (R9A.out.below bB); have KB : Hid (Okw wB) := Lib.hid (KA.out.below bB); have UB := Lib.hid (UA.out.below bB)
      have BB := Lib.hid (BA.out.trans (bB.mono BA.out.size))
      clear bB RA RXA R9A KA UA BA T4'
      have cs := refSame7_any _ _ X X wB RXB.out R9B.out
      rw [decide_eq_true rfl] at cs
      have CS := Lib.hid cs; clear cs
      go_wp2_with fail
      refine CS.out.mono ?_
      rintro e wC ⟨rfl, kC, rfl⟩
      obtain ⟨wC, hwC⟩ : ∃ z, z = wB.drewN kC := ⟨_, rfl⟩
      have bC : Below wB.heap.size wB wC := by rw [hwC]; exact below_draws (Below.refl _ _) _
      have RC := Lib.hid (RB.out.below bC); have RXC := Lib.hid (RXB.out.below bC); have KC : Hid (Okw wC) := Lib.hid (KB.out.below bC); have UC := Lib.hid (UB.out.below bC)
      have BC := Lib.hid (BB.out.trans (bC.mono BB.out.size))
      rw [← hwC]
      clear bC hwC CS RB RXB R9B KB UB BB
      have cs := refSame7_any _ _ X X wC RXC.out RC.out
      rw [decide_eq_true rfl] at cs
      have CS := Lib.hid cs; clear cs
      go_wp2_with fail
      refine CS.out.mono ?_
      rintro e wD ⟨rfl, kD, rfl⟩
      obtain ⟨wD, hwD⟩ : ∃ z, z = wC.drewN kD := ⟨_, rfl⟩
      have bD : Below wC.heap.size wC wD := by rw [hwD]; exact below_draws (Below.refl _ _) _
      have RXD := Lib.hid (RXC.out.below bD); have KD : Hid (Okw wD) := Lib.hid (KC.out.below bD); have UD := Lib.hid (UC.out.below bD)
      have BD := Lib.hid (BC.out.trans (bD.mono BC.out.size))
      rw [← hwD]
      clear bD hwD CS RC RXC KC UC BC
      go_wp2
      go_loopw [87] (fun s87 wr => ∃ j : Nat, j ≤ c ∧ s87 = .int .i64 j ∧ Hid (Below wD.heap.size wD wr)) (fun s87 _ => c - (RowKit.intOf s87).toNat)
      case atStart => exact ⟨0, Nat.zero_le _, rfl, Lib.hid (Below.refl _ _)⟩
      case round =>
        obtain ⟨j, hjn, rfl, BJ⟩ := hrel
        by_cases hj : j < c
        · have j1 : (j : Int) < (c : Int) := by omega
          obtain ⟨⟨p1, p2, p3⟩, hp⟩ : ∃ p, l[j]? = some p := ⟨_, List.getElem?_eq_getElem (by rw [HN.out]; exact hj)⟩
          obtain ⟨b', o', eb', _, hcc⟩ := (UD.out.below BJ.out).cells HN.out (by omega)
          first | subst eb' | (have eb1 := Option.some.inj eb'; simp only [Addr.mk.injEq] at eb1; obtain ⟨rfl, rfl, _⟩ := eb1) | skip
          obtain ⟨g0, g1, g2⟩ := blk_cells hcc hp
          simp only at g0 g1 g2
          obtain ⟨z1, z2⟩ := Q5.out _ (List.mem_of_getElem? hp)
          simp only at z1 z2
          have hal := BJ.out.trans ((blw_one wr (.cells #[.string p1, .string p2, .int .i64 p3] 24)).mono BJ.out.size)
          obtain ⟨x0, x1, x2⟩ := cells3_new wr (.string p1) (.string p2) (.int .i64 p3) 24
          have hltb : wr.heap.size < (wr.alloc (.cells #[.string p1, .string p2, .int .i64 p3] 24)).heap.size := by simp
          have cf := T5'.out _ p1 p2 (wr.alloc (.cells #[.string p1, .string p2, .int .i64 p3] 24)) (KD.out.below hal) (RXD.out.below hal)
          rw [z1, z2] at cf
          obtain ⟨fv, hfv⟩ : ∃ z, lst l (p1, p2, p3) = z := ⟨_, rfl⟩
          rw [hfv] at cf
          obtain ⟨wa, hwa⟩ : ∃ z, wr.alloc (.cells #[.string p1, .string p2, .int .i64 p3] 24) = z := ⟨_, rfl⟩
          obtain ⟨bx, hbx⟩ : ∃ z, wr.heap.size = z := ⟨_, rfl⟩
          rw [hwa] at cf hal x0 x1 x2 hltb
          rw [hbx] at x0 x1 x2 hltb
          have CF := Lib.hid cf; have HAL := Lib.hid hal; have HWA := Lib.hid hwa; have HBX := Lib.hid hbx; have HFV := Lib.hid hfv
          clear cf hal hwa hbx hfv z1 z2 hcc hp
          go_wp2_with fail
          rw [HWA.out, HBX.out]
          refine CF.out.mono ?_
          rintro e w6 ⟨rfl, b6⟩
          have y0 := (b6.cell (p := ⟨bx, 0, none⟩) hltb).trans x0
          have y1 := (b6.cell (p := ⟨bx, 1, none⟩) hltb).trans x1
          have lt6 : bx < w6.heap.size := Nat.lt_of_lt_of_le hltb b6.size
          have B6 : Hid (Below wD.heap.size wD w6) := Lib.hid (HAL.out.trans (b6.mono HAL.out.size))
          have U6 := Lib.hid (UD.out.below B6.out)
          clear b6 x0 x1 x2 g0 g1 g2 CF HAL HWA HBX
          have HY : Hid (w6.cell? ⟨bx, 0, none⟩ = some (.string p1) ∧ w6.cell? ⟨bx, 1, none⟩ = some (.string p2)) := Lib.hid ⟨y0, y1⟩
          clear y0 y1
          go_wp2
          go_loopw [16, 102] (fun s16 s102 wr' => ∃ i : Nat, i ≤ c ∧ s102 = .int .i64 i ∧ s16 = .int .i64 (lst (l.take i) (p1, p2, p3)) ∧ Hid (Below w6.heap.size w6 wr')) (fun _ s102 _ => c - (RowKit.intOf s102).toNat)
          case atStart => exact ⟨0, Nat.zero_le _, rfl, by simp [lst_nil], Lib.hid (Below.refl _ _)⟩
          case round =>
            obtain ⟨i, hin, rfl, rfl, BI⟩ := hrel
            have y0 := (BI.out.cell (p := ⟨bx, 0, none⟩) lt6).trans HY.out.1
            have y1 := (BI.out.cell (p := ⟨bx, 1, none⟩) lt6).trans HY.out.2
            by_cases hi : i < c
            · have i1 : (i : Int) < (c : Int) := by omega
              obtain ⟨⟨t1, t2, t3⟩, ht⟩ : ∃ p, l[i]? = some p := ⟨_, List.getElem?_eq_getElem (by rw [HN.out]; exact hi)⟩
              obtain ⟨b'', o'', eb'', _, hcc⟩ := (U6.out.below BI.out).cells HN.out (by omega)
              first | subst eb'' | (have eb1 := Option.some.inj eb''; simp only [Addr.mk.injEq] at eb1; obtain ⟨rfl, rfl, _⟩ := eb1) | skip
              obtain ⟨g0, g1, g2⟩ := blk_cells hcc ht
              simp only at g0 g1 g2
              have hcb := (Q4.out _ (List.mem_of_getElem? ht)).2
              have hst := lst_take i _ (p1, p2, p3) ht hcb
              simp only at hst
              obtain ⟨lv, hlv⟩ : ∃ z, lst (l.take i) (p1, p2, p3) = z := ⟨_, rfl⟩
              rw [hlv] at hst ⊢
              have HST := Lib.hid hst
              have hal := BI.out.trans ((blw_one wr (.cells #[.string t1, .string t2, .int .i64 t3] 24)).mono BI.out.size)
              have HAL2 := Lib.hid hal
              have hltx : bx < wr.heap.size := Nat.lt_of_lt_of_le lt6 BI.out.size
              have u0 := (blw_one wr (.cells #[.string t1, .string t2, .int .i64 t3] 24)).cell (p := ⟨bx, 0, none⟩) hltx |>.trans y0
              have u1 := (blw_one wr (.cells #[.string t1, .string t2, .int .i64 t3] 24)).cell (p := ⟨bx, 1, none⟩) hltx |>.trans y1
              obtain ⟨v0, v1, v2⟩ := cells3_new wr (.string t1) (.string t2) (.int .i64 t3) 24
              obtain ⟨wb, hwb⟩ : ∃ z, wr.alloc (.cells #[.string t1, .string t2, .int .i64 t3] 24) = z := ⟨_, rfl⟩
              obtain ⟨by', hby⟩ : ∃ z, wr.heap.size = z := ⟨_, rfl⟩
              rw [hwb] at u0 u1 v0 v1 v2 HAL2
              rw [hby] at v0 v1 v2
              have HWB := Lib.hid hwb; have HBY := Lib.hid hby
              have hcs : (t1 = p1 ∧ t2 = p2) ∨ (t1.toList == p1.toList) = false ∨ ((t1.toList == p1.toList) = true ∧ (t2.toList == p2.toList) = false) := by
                by_cases e1 : t1 = p1
                · by_cases e2 : t2 = p2
                  · exact .inl ⟨e1, e2⟩
                  · exact .inr (.inr ⟨by rw [e1]; simp, beq_eq_false_iff_ne.2 (fun e => e2 (toList_ext e))⟩)
                · exact .inr (.inl (beq_eq_false_iff_ne.2 (fun e => e1 (toList_ext e))))
              have HNO : Hid (¬ (t1 = p1 ∧ t2 = p2) → lst (l.take (i + 1)) (p1, p2, p3) = lv) := Lib.hid (fun hne => by rw [HST.out, if_neg (fun e => hne ⟨e.1, e.2⟩)])
              have HYE : Hid (t1 = p1 → t2 = p2 → lst (l.take (i + 1)) (p1, p2, p3) = min lv t3) := Lib.hid (fun e1 e2 => by rw [HST.out, if_pos ⟨e1, e2⟩])
              clear hst hlv hal hwb hby hcc ht hcb HST
              rcases hcs with ⟨rfl, rfl⟩ | h1 | ⟨h1, h2⟩
              · have hnew : Hid (lst (l.take (i + 1)) (t1, t2, p3) = min lv t3) := Lib.hid (HYE.out rfl rfl)
                clear HYE HNO
                go_wp2
                rw [HWB.out]
                exact ⟨⟨i + 1, by omega, by go_num, by rw [hnew.out], HAL2⟩, by simp [RowKit.intOf]; omega⟩
              all_goals
                have hnew : Hid (lst (l.take (i + 1)) (p1, p2, p3) = lv) := Lib.hid (HNO.out (by
                  rintro ⟨rfl, rfl⟩
                  simp at *))
                clear HYE HNO
                go_wp2
                rw [HWB.out]
                exact ⟨⟨i + 1, by omega, by go_num, by rw [hnew.out], HAL2⟩, by simp [RowKit.intOf]; omega⟩
            · obtain rfl : i = c := by omega
              have hL : lst (l.take i) (p1, p2, p3) = fv := by rw [List.take_of_length_le (by rw [HN.out]; exact Nat.le_refl _)]; exact HFV.out
              rw [hL]
              have BE : Hid (Below wD.heap.size wD wr) := Lib.hid (B6.out.trans (BI.out.mono B6.out.size))
              clear hL y0 y1
              go_wp2
              exact ⟨⟨j + 1, by omega, by go_num, BE⟩, by simp [RowKit.intOf]; omega⟩
        · obtain rfl : j = c := by omega
          have BE := Lib.hid (BD.out.trans (BJ.out.mono BD.out.size))
          go_wp2
          go_ret
          exact ⟨rfl, BE.out⟩
    · have r4 : ¬ c = k := hck
      have X1 : Hid (BRuns w3.drew (.slice (some ⟨b, o + k * 3, none⟩) (n - k) (c - k)) P1) := Lib.hid (by rw [← HP1.out]; exact (rruns_from U3.out HN.out k hkl).below (Below.refl _ _).drew)
      have X2 : Hid (BRuns w3 (.slice (some ⟨b, o, none⟩) k c) P2) := Lib.hid (by rw [← HP2.out]; exact U3.out.front HN.out k hkl)
      go_wp2
      go_region_law (first
        | (refine step_append_rules rfl (.tmp 45) (.tmp 48) w3.heap.size 0 [] P1 (by exact own_litR _ _ (Nat.le_refl _)) (by exact X1.out.below (blw_1 _ _)) rfl rfl (by go_simp) (by go_simp) (by simp) (by rw [HL1.out]; omega) ?_; intro v35 w35 h35 k35 j35; have K35 : Hid (OnK w3 v35 P1 w35) := Lib.hid (OnK.one (fun b hb => by simp [Value.ownBlock] at hb; omega) h35 k35); clear h35 k35 j35)
        | (refine step_append_rules rfl (.tmp 49) (.tmp 52) w3.heap.size P1.length (gCells blkCell P1) P2 (by exact K35.out.own) (by exact X2.out.below K35.out.bel) rfl rfl (by go_simp) (by go_simp) (by exact K35.out.bel.size) (by rw [HL1.out, HL2.out]; omega) ?_; intro v39 w39 h39 k39 j39; have K39 : Hid (OnK w3 v39 (P1 ++ P2) w39) := Lib.hid (OnK.two K35.out h39 k39); clear h39 k39 j39)
        | (refine step_call_one rfl 16 (.tmp 53) 22 rfl eg (by go_simp) (T2n.out _ w39 (K3.out.below K39.out.bel) (GRuns.of_own rl_ln rfl K39.out.own)) ?_; rintro e w9 ⟨y, rfl, r9, b9⟩; refine ⟨_, rfl, ?_⟩; obtain ⟨A9, c9, e9⟩ := r9.slice; rw [HNX.out] at e9; subst e9; have R9 := Lib.hid r9; have B9 := Lib.hid (K39.out.bel.trans (b9.mono K39.out.bel.size)); clear r9 b9))
      simp only [Act.put, List.getElem_toArray, List.getElem_cons_zero, List.getElem_cons_succ, List.setIfInBounds_toArray, List.set_cons_succ, List.set_cons_zero]
      have RX := Lib.hid (R3.out.below B9.out); have K9 : Hid (Okw w9) := Lib.hid (K3.out.below B9.out); have U9 := Lib.hid (U3.out.below B9.out)
      have BW9 : Hid (Below w.heap.size w w9) := Lib.hid (B3.out.trans (B9.out.mono B3.out.size))
      clear K35 K39 X1 X2 R3 K3 U3 B3 B9 T2n HP1 HP2 HL1 HL2
      go_wp2_with fail
      refine (T3'.out _ _ K9.out RX.out).mono ?_
      rintro e wA ⟨vc, rfl, rA, bA⟩
      obtain ⟨AA, kA, eA⟩ := rA.slice
      rw [HNX.out] at eA
      subst eA
      have RA := Lib.hid rA; have RXA := Lib.hid (RX.out.below bA); have R9A := Lib.hid (R9.out.below bA); have KA : Hid (Okw wA) := Lib.hid (K9.out.below bA); have UA := Lib.hid (U9.out.below bA)
      have BA := Lib.hid (BW9.out.trans (bA.mono BW9.out.size))
      clear bA rA RX R9 K9 U9 BW9 T3'
      go_wp2_with fail
      refine (T4'.out _ _ KA.out RXA.out).mono ?_
      rintro e wB ⟨rfl, bB⟩
      have RB := Lib.hid (RA.out.below bB); have RXB := Lib.hid (RXA.out.below bB); have R9B := Lib.hid (R9A.out.below bB); have KB : Hid (Okw wB) := Lib.hid (KA.out.below bB); have UB := Lib.hid (UA.out.below bB)
      have BB := Lib.hid (BA.out.trans (bB.mono BA.out.size))
      clear bB RA RXA R9A KA UA BA T4'
      have cs := refSame7_any _ _ X X wB RXB.out R9B.out
      rw [decide_eq_true rfl] at cs
      have CS := Lib.hid cs; clear cs
      go_wp2_with fail
      refine CS.out.mono ?_
      rintro e wC ⟨rfl, kC, rfl⟩
      obtain ⟨wC, hwC⟩ : ∃ z, z = wB.drewN kC := ⟨_, rfl⟩
      have bC : Below wB.heap.size wB wC := by rw [hwC]; exact below_draws (Below.refl _ _) _
      have RC := Lib.hid (RB.out.below bC); have RXC := Lib.hid (RXB.out.below bC); have KC : Hid (Okw wC) := Lib.hid (KB.out.below bC); have UC := Lib.hid (UB.out.below bC)
      have BC := Lib.hid (BB.out.trans (bC.mono BB.out.size))
      rw [← hwC]
      clear bC hwC CS RB RXB R9B KB UB BB
      have cs := refSame7_any _ _ X X wC RXC.out RC.out
      rw [decide_eq_true rfl] at cs
      have CS := Lib.hid cs; clear cs
      go_wp2_with fail
      refine CS.out.mono ?_
      rintro e wD ⟨rfl, kD, rfl⟩
      obtain ⟨wD, hwD⟩ : ∃ z, z = wC.drewN kD := ⟨_, rfl⟩
      have bD : Below wC.heap.size wC wD := by rw [hwD]; exact below_draws (Below.refl _ _) _
      have RXD := Lib.hid (RXC.out.below bD); have KD : Hid (Okw wD) := Lib.hid (KC.out.below bD); have UD := Lib.hid (UC.out.below bD)
      have BD := Lib.hid (BC.out.trans (bD.mono BC.out.size))
      rw [← hwD]
      clear bD hwD CS RC RXC KC UC BC
      go_wp2
      go_loopw [87] (fun s87 wr => ∃ j : Nat, j ≤ n ∧ s87 = .int .i64 j ∧ Hid (Below wD.heap.size wD wr)) (fun s87 _ => n - (RowKit.intOf s87).toNat)
      case atStart => exact ⟨0, Nat.zero_le _, rfl, Lib.hid (Below.refl _ _)⟩
      case round =>
        obtain ⟨j, hjn, rfl, BJ⟩ := hrel
        by_cases hj : j < n
        · have j1 : (j : Int) < (n : Int) := by omega
          obtain ⟨⟨p1, p2, p3⟩, hp⟩ : ∃ p, l[j]? = some p := ⟨_, List.getElem?_eq_getElem (by rw [HN.out]; exact hj)⟩
          obtain ⟨b', o', eb', _, hcc⟩ := (UD.out.below BJ.out).cells HN.out (by omega)
          first | subst eb' | (have eb1 := Option.some.inj eb'; simp only [Addr.mk.injEq] at eb1; obtain ⟨rfl, rfl, _⟩ := eb1) | skip
          obtain ⟨g0, g1, g2⟩ := blk_cells hcc hp
          simp only at g0 g1 g2
          obtain ⟨z1, z2⟩ := Q5.out _ (List.mem_of_getElem? hp)
          simp only at z1 z2
          have hal := BJ.out.trans ((blw_one wr (.cells #[.string p1, .string p2, .int .i64 p3] 24)).mono BJ.out.size)
          obtain ⟨x0, x1, x2⟩ := cells3_new wr (.string p1) (.string p2) (.int .i64 p3) 24
          have hltb : wr.heap.size < (wr.alloc (.cells #[.string p1, .string p2, .int .i64 p3] 24)).heap.size := by simp
          have cf := T5'.out _ p1 p2 (wr.alloc (.cells #[.string p1, .string p2, .int .i64 p3] 24)) (KD.out.below hal) (RXD.out.below hal)
          rw [z1, z2] at cf
          obtain ⟨fv, hfv⟩ : ∃ z, lst l (p1, p2, p3) = z := ⟨_, rfl⟩
          rw [hfv] at cf
          obtain ⟨wa, hwa⟩ : ∃ z, wr.alloc (.cells #[.string p1, .string p2, .int .i64 p3] 24) = z := ⟨_, rfl⟩
          obtain ⟨bx, hbx⟩ : ∃ z, wr.heap.size = z := ⟨_, rfl⟩
          rw [hwa] at cf hal x0 x1 x2 hltb
          rw [hbx] at x0 x1 x2 hltb
          have CF := Lib.hid cf; have HAL := Lib.hid hal; have HWA := Lib.hid hwa; have HBX := Lib.hid hbx; have HFV := Lib.hid hfv
          clear cf hal hwa hbx hfv z1 z2 hcc hp
          go_wp2_with fail
          rw [HWA.out, HBX.out]
          refine CF.out.mono ?_
          rintro e w6 ⟨rfl, b6⟩
          have y0 := (b6.cell (p := ⟨bx, 0, none⟩) hltb).trans x0
          have y1 := (b6.cell (p := ⟨bx, 1, none⟩) hltb).trans x1
          have lt6 : bx < w6.heap.size := Nat.lt_of_lt_of_le hltb b6.size
          have B6 : Hid (Below wD.heap.size wD w6) := Lib.hid (HAL.out.trans (b6.mono HAL.out.size))
          have U6 := Lib.hid (UD.out.below B6.out)
          clear b6 x0 x1 x2 g0 g1 g2 CF HAL HWA HBX
          have HY : Hid (w6.cell? ⟨bx, 0, none⟩ = some (.string p1) ∧ w6.cell? ⟨bx, 1, none⟩ = some (.string p2)) := Lib.hid ⟨y0, y1⟩
          clear y0 y1
          go_wp2
          go_loopw [16, 102] (fun s16 s102 wr' => ∃ i : Nat, i ≤ n ∧ s102 = .int .i64 i ∧ s16 = .int .i64 (lst (l.take i) (p1, p2, p3)) ∧ Hid (Below w6.heap.size w6 wr')) (fun _ s102 _ => n - (RowKit.intOf s102).toNat)
          case atStart => exact ⟨0, Nat.zero_le _, rfl, by simp [lst_nil], Lib.hid (Below.refl _ _)⟩
          case round =>
            obtain ⟨i, hin, rfl, rfl, BI⟩ := hrel
            have y0 := (BI.out.cell (p := ⟨bx, 0, none⟩) lt6).trans HY.out.1
            have y1 := (BI.out.cell (p := ⟨bx, 1, none⟩) lt6).trans HY.out.2
            by_cases hi : i < n
            · have i1 : (i : Int) < (n : Int) := by omega
              obtain ⟨⟨t1, t2, t3⟩, ht⟩ : ∃ p, l[i]? = some p := ⟨_, List.getElem?_eq_getElem (by rw [HN.out]; exact hi)⟩
              obtain ⟨b'', o'', eb'', _, hcc⟩ := (U6.out.below BI.out).cells HN.out (by omega)
              first | subst eb'' | (have eb1 := Option.some.inj eb''; simp only [Addr.mk.injEq] at eb1; obtain ⟨rfl, rfl, _⟩ := eb1) | skip
              obtain ⟨g0, g1, g2⟩ := blk_cells hcc ht
              simp only at g0 g1 g2
              have hcb := (Q4.out _ (List.mem_of_getElem? ht)).2
              have hst := lst_take i _ (p1, p2, p3) ht hcb
              simp only at hst
              obtain ⟨lv, hlv⟩ : ∃ z, lst (l.take i) (p1, p2, p3) = z := ⟨_, rfl⟩
              rw [hlv] at hst ⊢
              have HST := Lib.hid hst
              have hal := BI.out.trans ((blw_one wr (.cells #[.string t1, .string t2, .int .i64 t3] 24)).mono BI.out.size)
              have HAL2 := Lib.hid hal
              have hltx : bx < wr.heap.size := Nat.lt_of_lt_of_le lt6 BI.out.size
              have u0 := (blw_one wr (.cells #[.string t1, .string t2, .int .i64 t3] 24)).cell (p := ⟨bx, 0, none⟩) hltx |>.trans y0
              have u1 := (blw_one wr (.cells #[.string t1, .string t2, .int .i64 t3] 24)).cell (p := ⟨bx, 1, none⟩) hltx |>.trans y1
              obtain ⟨v0, v1, v2⟩ := cells3_new wr (.string t1) (.string t2) (.int .i64 t3) 24
              obtain ⟨wb, hwb⟩ : ∃ z, wr.alloc (.cells #[.string t1, .string t2, .int .i64 t3] 24) = z := ⟨_, rfl⟩
              obtain ⟨by', hby⟩ : ∃ z, wr.heap.size = z := ⟨_, rfl⟩
              rw [hwb] at u0 u1 v0 v1 v2 HAL2
              rw [hby] at v0 v1 v2
              have HWB := Lib.hid hwb; have HBY := Lib.hid hby
              have hcs : (t1 = p1 ∧ t2 = p2) ∨ (t1.toList == p1.toList) = false ∨ ((t1.toList == p1.toList) = true ∧ (t2.toList == p2.toList) = false) := by
                by_cases e1 : t1 = p1
                · by_cases e2 : t2 = p2
                  · exact .inl ⟨e1, e2⟩
                  · exact .inr (.inr ⟨by rw [e1]; simp, beq_eq_false_iff_ne.2 (fun e => e2 (toList_ext e))⟩)
                · exact .inr (.inl (beq_eq_false_iff_ne.2 (fun e => e1 (toList_ext e))))
              have HNO : Hid (¬ (t1 = p1 ∧ t2 = p2) → lst (l.take (i + 1)) (p1, p2, p3) = lv) := Lib.hid (fun hne => by rw [HST.out, if_neg (fun e => hne ⟨e.1, e.2⟩)])
              have HYE : Hid (t1 = p1 → t2 = p2 → lst (l.take (i + 1)) (p1, p2, p3) = min lv t3) := Lib.hid (fun e1 e2 => by rw [HST.out, if_pos ⟨e1, e2⟩])
              clear hst hlv hal hwb hby hcc ht hcb HST
              rcases hcs with ⟨rfl, rfl⟩ | h1 | ⟨h1, h2⟩
              · have hnew : Hid (lst (l.take (i + 1)) (t1, t2, p3) = min lv t3) := Lib.hid (HYE.out rfl rfl)
                clear HYE HNO
                go_wp2
                rw [HWB.out]
                exact ⟨⟨i + 1, by omega, by go_num, by rw [hnew.out], HAL2⟩, by simp [RowKit.intOf]; omega⟩
              all_goals
                have hnew : Hid (lst (l.take (i + 1)) (p1, p2, p3) = lv) := Lib.hid (HNO.out (by
                  rintro ⟨rfl, rfl⟩
                  simp at *))
                clear HYE HNO
                go_wp2
                rw [HWB.out]
                exact ⟨⟨i + 1, by omega, by go_num, by rw [hnew.out], HAL2⟩, by simp [RowKit.intOf]; omega⟩
            · obtain rfl : i = n := by omega
              have hL : lst (l.take i) (p1, p2, p3) = fv := by rw [List.take_of_length_le (by rw [HN.out]; exact Nat.le_refl _)]; exact HFV.out
              rw [hL]
              have BE : Hid (Below wD.heap.size wD wr) := Lib.hid (B6.out.trans (BI.out.mono B6.out.size))
              clear hL y0 y1
              go_wp2
              exact ⟨⟨j + 1, by omega, by go_num, BE⟩, by simp [RowKit.intOf]; omega⟩
        · obtain rfl : j = n := by omega
          have BE := Lib.hid (BD.out.trans (BJ.out.mono BD.out.size))
          go_wp2
          go_ret
          exact ⟨rfl, BE.out⟩
end Go.Proofs.YtnognphjndpgkaaDoor
