/- DawgMore, walked over what dawg's functions answer. -/
import Derived.Test.YtnjhbblhlgpgdaaDoorPk19
import Derived.Test.YtnjhbblhlgpgdaaDoorPk5
namespace Go.Proofs.YtnjhbblhlgpgdaaDoor
open Go.RowKit Go.Shelf
attribute [local go_sem] Oper.semAt_some
set_option linter.unusedSimpArgs false
set_option linter.unusedVariables false

theorem z_region_in {P : Program} {id : Nat} {ops : Array Oper} {b : Bool} {Q : Exit → Act → World → Prop} {a : Act} {w : World} (S : Act → World → Prop) (h1 : (Code.region id ops b).wp P (ZIn S) a w) (h2 : ∀ a w, S a w → Q .normal a w) : (Code.region id ops b).wp P Q a w :=
  Code.wp_mono (fun e a w h => by
    cases e
    case normal => exact h2 a w h
    all_goals exact (h : False).elim) h1
theorem z_mul2 (q : Nat) (h : q ≤ 6000000) : IntKind.i64.wrap (2 * (q : Int)) = 2 * (q : Int) := by rw [IntKind.wrap_i64]; omega
theorem z_mul2a (q n : Nat) (h : q ≤ 6000000) (h2 : n ≤ 2000000) : IntKind.i64.wrap (2 * (q : Int) + (n : Int)) = 2 * (q : Int) + (n : Int) := by rw [IntKind.wrap_i64]; omega
theorem dec_runes10 {s : ByteArray} (hv : Lib.validD s.data.toList = true) : decErr s.data.toList = 0 ∧ decRunes s.data.toList = rnK s := by
  constructor
  · unfold decErr; rw [if_pos hv]
  · unfold decRunes; rw [if_pos hv]; rfl
/-- With a word more: plain. -/
theorem more_facts {X : List Wrd} {x : Wrd} (hX : wisS X = 0) (h : worE (X ++ [x]) = 0) :
    wisS (worS (X ++ [x])) = 0 ∧ (∀ y ∈ X ++ [x], isW (rnW (worS (X ++ [x]))) y.1.data.toList) ∧ (staQ (rnW (worS (X ++ [x])))).length ≤ 2 * (staQ (rnW X)).length + (rnK x.1).length ∧ Lib.validD x.1.data.toList = true := by
  have hm := wor_is h
  refine ⟨hm, fun y hy => ?_, ?_, ?_⟩
  · obtain ⟨z, hz, e⟩ := (wor_keys h y.1).2 ⟨y, hy, rfl⟩
    obtain ⟨i, hi⟩ := List.mem_iff_getElem?.1 hz
    have := (place_at hm hi).1
    rwa [e] at this
  · exact staQ_word (rnW_rising hX) (rnW_rising hm) (fun y => rnW_more hX h y)
  · exact wchk_valid (wall_zero.1 (worE_facts h).1 x (by simp))

set_option maxRecDepth 100000 in
set_option maxHeartbeats 64000000 in
theorem dawgMore_walk (u : Value) (l : List Wrd) (x1 : ByteArray) (x2 : Int) (w : World) (h : Okw w) (hu : WRuns w u l) (hl : l.length ≤ 1900000) (hz : szW l) (hs : x1.size ≤ 2000000) :
    Calls Tryd.prog 9 #[u, .agg #[.string x1, .int .i64 x2]] w (RetTrue w) := by
  have n1 := fun w hu => refNormal9_any u l w hu (by omega) hz
  have hzn := szW_nor hz
  have hln := worS_len l
  have g1 := fun v w (hv : WRuns w v (worS l)) => great10_det v (worS l) w hv (fun b hb => by have := hzn b hb; omega)
  have hwi : worE l = 0 → wisS (worS l) = 0 := fun e => wor_is e
  clear hz
  obtain ⟨gr, hgr⟩ : ∃ z, gr10 (worS l) = z := ⟨_, rfl⟩
  obtain ⟨ea, hea⟩ : ∃ z, worE l = z := ⟨_, rfl⟩
  obtain ⟨X, hX⟩ : ∃ z, worS l = z := ⟨_, rfl⟩
  simp only [hgr] at g1
  simp only [hea, hX] at n1
  rw [hea] at hwi
  simp only [hX] at g1 hwi hln hzn
  obtain ⟨nx, hnx⟩ : ∃ z, X.length = z := ⟨_, rfl⟩
  have hnb : nx ≤ 1900000 := by rw [← hnx]; omega
  have hzm : szW (X ++ [(x1, x2)]) := fun b hb => by
    rcases List.mem_append.1 hb with hb | hb
    · exact hzn b hb
    · obtain rfl := List.mem_singleton.1 hb
      exact hs
  have hlm : (X ++ [(x1, x2)]).length = nx + 1 := by rw [List.length_append, hnx]; rfl
  have nm := fun v w (hv : WRuns w v (X ++ [(x1, x2)])) => refNormal9_any v (X ++ [(x1, x2)]) w hv (by rw [hlm]; omega) hzm
  have hzs := szW_nor hzm
  have hls := worS_len (X ++ [(x1, x2)])
  have mf : ea = 0 → worE (X ++ [(x1, x2)]) = 0 → _ := fun e1 e2 => more_facts (x := (x1, x2)) (hwi e1) e2
  obtain ⟨eb, heb⟩ : ∃ z, worE (X ++ [(x1, x2)]) = z := ⟨_, rfl⟩
  obtain ⟨M, hM⟩ : ∃ z, worS (X ++ [(x1, x2)]) = z := ⟨_, rfl⟩
  simp only [heb, hM] at nm mf
  rw [hM] at hzs hls
  obtain ⟨nM, hnM⟩ : ∃ z, M.length = z := ⟨_, rfl⟩
  have hMb : nM ≤ 2000000 := by rw [← hnM]; omega
  have HU := Lib.hid hu; have G1 := Lib.hid g1; have N1 := Lib.hid n1; have HWI := Lib.hid hwi; have HNX := Lib.hid hnx; have HZN := Lib.hid hzn; have NM := Lib.hid nm; have MF := Lib.hid mf; have HZS := Lib.hid hzs; have HNM := Lib.hid hnM; have HLM := Lib.hid hlm
  have HB0 : Hid (∀ o : Obj, Below w.heap.size w (w.alloc o)) := Lib.hid (fun o => bel_one w o)
  have HX0 : Hid (Bx (w.alloc (.cells #[.string x1, .int .i64 x2] 55)) w.heap.size 55 #[.string x1, .int .i64 x2]) := Lib.hid (bx_new _ _ _)
  clear hu g1 n1 hwi hnx hgr hea hX hln hl hzn hzm hlm nm mf heb hM hzs hls hnM
  go_enter Tryd.func9, Tryd.ntmps9
  go_wp2_with fail
  refine (alive10_any _ (h.below (HB0.out _))).mono ?_
  rintro e w1 ⟨rfl, b1⟩
  have hb1 := (HB0.out _).trans (b1.mono (HB0.out _).size)
  have U1 := Lib.hid (HU.out.below hb1); have K1 : Hid (Okw w1) := Lib.hid (h.below hb1); have X1 := Lib.hid (HX0.out.below b1)
  have B1 := Lib.hid hb1
  have hsz1 : w.heap.size < w1.heap.size := X1.out.lt
  obtain ⟨B3, hB3⟩ : ∃ z, w.heap.size = z := ⟨_, rfl⟩
  rw [hB3] at X1 hsz1
  have HB3 := Lib.hid hB3
  clear b1 hb1 HX0 HB0 hB3
  go_wp2_with fail
  refine (N1.out _ U1.out).mono ?_
  rintro e w2 ⟨va, rfl, ra, b2⟩
  obtain ⟨Aa, ka, ea2⟩ := ra.slice
  rw [HNX.out] at ea2
  subst ea2
  have K2 : Hid (Okw w2) := Lib.hid (K1.out.below b2)
  have R2 := Lib.hid ra; have X2 := Lib.hid (X1.out.below b2)
  have B2 := Lib.hid (B1.out.trans (b2.mono B1.out.size))
  have hsz2 : B3 < w2.heap.size := by have := b2.size; omega
  obtain ⟨c0, c1⟩ := X2.out.two
  clear b2 ra U1 K1 B1 X1 hsz1 N1
  go_wp2
  rw [HB3.out]
  -- region 4
  have eg : ∀ args w, (callFunc 29 args).run Tryd.prog w = .ok (.enter 29 args) w := enters_of Tryd.func29 (by kernel_rfl) rfl
  have HEG := Lib.hid eg
  clear eg
  refine z_region_in (S := fun a' w' => ∃ (u26 u28 u30 u31 v3 : Value), a' = { tmps := #[.slice Aa nx ka, .agg #[.string x1, .int .i64 x2], undef, .pointer (some ⟨B3, 0, none⟩), .bool false, .int .i64 ea, v3, .int .i64 eb, undef, undef, undef, undef, undef, undef, undef, undef, undef, undef, .bool true, .bool false, .tuple #[.slice Aa nx ka, .int .i64 ea], u, .tuple #[.slice Aa nx ka, .int .i64 ea], .slice Aa nx ka, .int .i64 ea, .tuple #[v3, .int .i64 eb], u26, .slice Aa nx ka, u28, .agg #[.string x1, .int .i64 x2], u30, u31, .tuple #[v3, .int .i64 eb], v3, .int .i64 eb, undef, undef, undef, undef, undef, undef, undef, undef, undef, undef, undef, undef, undef, undef, undef, undef, undef, undef, undef, undef, undef, undef, undef, undef, undef, undef, undef, undef, undef, undef, undef, undef, undef, undef, undef, undef, undef, undef, undef, undef, undef, undef, undef, undef, undef, undef, undef, undef, undef, undef, undef, undef, undef, undef, undef, undef, undef, undef, undef, undef, undef, undef, undef, undef, undef, undef, undef, undef, undef, undef, undef, undef, undef, undef, undef], defers := [] } ∧ WRuns w' v3 M ∧ Below w2.heap.size w2 w') ?_ ?_
  · refine wp_region_held_drew (S := fun wx => wx.cell? ⟨B3, 0, none⟩ = some (.string x1) ∧ wx.cell? ⟨B3, 1, none⟩ = some (.int .i64 x2)) (by kernel_rfl) ⟨c0, c1⟩ (fun hS => ?_)
    change wpAnyH _ _ _ _ _ 12 _ _ _
    refine wpAnyH_take (i := 1) (v := .slice Aa nx ka) rfl (by kernel_rfl) (by kernel_rfl) (by kernel_rfl) (fun _ _ _ h => h) (Or.inl ⟨by rfl, fun wy hy => by obtain ⟨y0, y1⟩ := hy; go_simp⟩) hS ?_
    refine wpAnyH_take (i := 3) (v := .agg #[.string x1, .int .i64 x2]) rfl (by kernel_rfl) (by kernel_rfl) (by kernel_rfl) (fun _ _ _ h => h) (Or.inl ⟨by rfl, fun wy hy => by obtain ⟨y0, y1⟩ := hy; go_simp⟩) hS ?_
    refine wpAnyH_ready (rs := [0, 4]) (by kernel_rfl) (by simp) ?_
    refine AllReadyH.cons rfl (fun K hK => ?_) (AllReadyH.cons rfl (fun K hK => ?_) AllReadyH.nil)
    · go_simp
      have hb1 : Below w2.heap.size w2 (w2.drew.alloc (.cells #[] 55)) := (Below.refl _ _).drew.alloc (Nat.le_refl _) _
      have o1 := own_litW w2.drew w2.heap.size (Nat.le_refl _)
      refine hK.out _ _ ⟨cell_keep hb1 c0, cell_keep hb1 c1⟩ (fun hS => ?_)
      refine wpAnyH_ready (rs := [2, 4]) (by kernel_rfl) (by simp) ?_
      refine AllReadyH.cons rfl (fun K hK => ?_) (AllReadyH.cons rfl (fun K hK => ?_) AllReadyH.nil)
      · have hux := R2.out.below hb1
        refine xstep_words rfl (.tmp 26) (.tmp 27) w2.heap.size 0 [] X o1 hux rfl rfl (by go_simp) (by go_simp) (by first | omega | exact (hb1).size) (by rw [HNX.out]; omega) ?_
        intro v5 w5 o5 g5 _
        have hb5 := hb1.grown g5 hb1.size (fun k hk => (o1.lt k hk).1)
        refine hK.out _ _ ⟨cell_keep hb5 c0, cell_keep hb5 c1⟩ (fun hS => ?_)
        refine wpAnyH_ready (rs := [4]) (by kernel_rfl) (by simp) ?_
        refine AllReadyH.cons rfl (fun K hK => ?_) AllReadyH.nil
        go_simp
        have hb6 : Below w2.heap.size w2 (w5.alloc (.cells #[.string x1, .int .i64 x2] 55)) := hb5.alloc hb5.size _
        refine hK.out _ _ ⟨cell_keep hb6 c0, cell_keep hb6 c1⟩ (fun hS => ?_)
        refine wpAnyH_ready (rs := [5]) (by kernel_rfl) (by simp) ?_
        refine AllReadyH.cons rfl (fun K hK => ?_) AllReadyH.nil
        have hlit := wrd_litR w5 (x1, x2)
        refine xstep_words rfl (.tmp 28) (.tmp 30) w2.heap.size (0 + X.length) ([] ++ gCells wrdCell X) [(x1, x2)] (o5.alloc _) hlit rfl rfl (by go_simp) (by go_simp) (by first | omega | exact (hb6).size) (by rw [HNX.out]; simp; omega) ?_
        intro v7 w7 o7 g7 _
        have hb7 := hb6.grown g7 hb6.size (fun k hk => (o5.lt k hk).1)
        refine hK.out _ _ ⟨cell_keep hb7 c0, cell_keep hb7 c1⟩ (fun hS => ?_)
        rw [List.nil_append, ← gCells_append] at o7
        have hv7 : WRuns w7 v7 (X ++ [(x1, x2)]) := GRuns.of_own wrd_ln (by simp) o7
        refine wpAnyH_ready (rs := [6]) (by kernel_rfl) (by simp) ?_
        refine AllReadyH.cons rfl (fun K hK => ?_) AllReadyH.nil
        refine xstep_call rfl 29 (.tmp 31) 22 rfl HEG.out (by go_simp) (NM.out v7 w7 hv7) ?_
        rintro e w8 ⟨v8, rfl, r8, b8⟩
        refine ⟨_, rfl, ?_⟩
        have hb8 := hb7.trans (b8.mono hb7.size)
        refine hK.out _ _ ⟨cell_keep hb8 c0, cell_keep hb8 c1⟩ (fun hS => ?_)
        refine wpAnyH_take (i := 7) (v := .tuple #[v8, .int .i64 eb]) rfl (by kernel_rfl) (by kernel_rfl) (by kernel_rfl) (fun _ _ _ h => h) (Or.inl ⟨by rfl, fun wy hy => by obtain ⟨y0, y1⟩ := hy; go_simp⟩) hS ?_
        refine wpAnyH_take (i := 8) (v := v8) rfl (by kernel_rfl) (by kernel_rfl) (by kernel_rfl) (fun _ _ _ h => h) (Or.inl ⟨by rfl, fun wy hy => by obtain ⟨y0, y1⟩ := hy; go_simp⟩) hS ?_
        refine wpAnyH_take (i := 9) (v := .int .i64 eb) rfl (by kernel_rfl) (by kernel_rfl) (by kernel_rfl) (fun _ _ _ h => h) (Or.inl ⟨by rfl, fun wy hy => by obtain ⟨y0, y1⟩ := hy; go_simp⟩) hS ?_
        refine wpAnyH_take (i := 10) (v := v8) rfl (by kernel_rfl) (by kernel_rfl) (by kernel_rfl) (fun _ _ _ h => h) (Or.inl ⟨by rfl, fun wy hy => by obtain ⟨y0, y1⟩ := hy; go_simp⟩) hS ?_
        refine wpAnyH_take (i := 11) (v := .int .i64 eb) rfl (by kernel_rfl) (by kernel_rfl) (by kernel_rfl) (fun _ _ _ h => h) (Or.inl ⟨by rfl, fun wy hy => by obtain ⟨y0, y1⟩ := hy; go_simp⟩) hS ?_
        refine wpAnyH_done (by kernel_rfl) ?_ _
        simp only [ZIn, Act.put, List.getElem_toArray, List.getElem_cons_zero, List.getElem_cons_succ, List.setIfInBounds_toArray, List.set_cons_succ, List.set_cons_zero]
        exact ⟨_, _, _, _, _, rfl, r8, hb8⟩
      · go_simp
        have hb2 : Below w2.heap.size w2 ((w2.drew.alloc (.cells #[] 55)).alloc (.cells #[.string x1, .int .i64 x2] 55)) := hb1.alloc hb1.size _
        refine hK.out _ _ ⟨cell_keep hb2 c0, cell_keep hb2 c1⟩ (fun hS => ?_)
        refine wpAnyH_ready (rs := [2]) (by kernel_rfl) (by simp) ?_
        refine AllReadyH.cons rfl (fun K hK => ?_) AllReadyH.nil
        have hux := R2.out.below hb2
        refine xstep_words rfl (.tmp 26) (.tmp 27) w2.heap.size 0 [] X (o1.alloc _) hux rfl rfl (by go_simp) (by go_simp) (by first | omega | exact (hb2).size) (by rw [HNX.out]; omega) ?_
        intro v5 w5 o5 g5 _
        have hb5 := hb2.grown g5 hb2.size (fun k hk => (o1.lt k hk).1)
        refine hK.out _ _ ⟨cell_keep hb5 c0, cell_keep hb5 c1⟩ (fun hS => ?_)
        refine wpAnyH_ready (rs := [5]) (by kernel_rfl) (by simp) ?_
        refine AllReadyH.cons rfl (fun K hK => ?_) AllReadyH.nil
        have hlit := gr_aside (wrd_litR (w2.drew.alloc (.cells #[] 55)) (x1, x2)) g5 (by simp [Value.ownBlock])
        refine xstep_words rfl (.tmp 28) (.tmp 30) w2.heap.size (0 + X.length) ([] ++ gCells wrdCell X) [(x1, x2)] o5 hlit rfl rfl (by go_simp) (by go_simp) (by first | omega | exact (hb5).size) (by rw [HNX.out]; simp; omega) ?_
        intro v7 w7 o7 g7 _
        have hb7 := hb5.grown g7 hb5.size (fun k hk => (o5.lt k hk).1)
        refine hK.out _ _ ⟨cell_keep hb7 c0, cell_keep hb7 c1⟩ (fun hS => ?_)
        rw [List.nil_append, ← gCells_append] at o7
        have hv7 : WRuns w7 v7 (X ++ [(x1, x2)]) := GRuns.of_own wrd_ln (by simp) o7
        refine wpAnyH_ready (rs := [6]) (by kernel_rfl) (by simp) ?_
        refine AllReadyH.cons rfl (fun K hK => ?_) AllReadyH.nil
        refine xstep_call rfl 29 (.tmp 31) 22 rfl HEG.out (by go_simp) (NM.out v7 w7 hv7) ?_
        rintro e w8 ⟨v8, rfl, r8, b8⟩
        refine ⟨_, rfl, ?_⟩
        have hb8 := hb7.trans (b8.mono hb7.size)
        refine hK.out _ _ ⟨cell_keep hb8 c0, cell_keep hb8 c1⟩ (fun hS => ?_)
        refine wpAnyH_take (i := 7) (v := .tuple #[v8, .int .i64 eb]) rfl (by kernel_rfl) (by kernel_rfl) (by kernel_rfl) (fun _ _ _ h => h) (Or.inl ⟨by rfl, fun wy hy => by obtain ⟨y0, y1⟩ := hy; go_simp⟩) hS ?_
        refine wpAnyH_take (i := 8) (v := v8) rfl (by kernel_rfl) (by kernel_rfl) (by kernel_rfl) (fun _ _ _ h => h) (Or.inl ⟨by rfl, fun wy hy => by obtain ⟨y0, y1⟩ := hy; go_simp⟩) hS ?_
        refine wpAnyH_take (i := 9) (v := .int .i64 eb) rfl (by kernel_rfl) (by kernel_rfl) (by kernel_rfl) (fun _ _ _ h => h) (Or.inl ⟨by rfl, fun wy hy => by obtain ⟨y0, y1⟩ := hy; go_simp⟩) hS ?_
        refine wpAnyH_take (i := 10) (v := v8) rfl (by kernel_rfl) (by kernel_rfl) (by kernel_rfl) (fun _ _ _ h => h) (Or.inl ⟨by rfl, fun wy hy => by obtain ⟨y0, y1⟩ := hy; go_simp⟩) hS ?_
        refine wpAnyH_take (i := 11) (v := .int .i64 eb) rfl (by kernel_rfl) (by kernel_rfl) (by kernel_rfl) (fun _ _ _ h => h) (Or.inl ⟨by rfl, fun wy hy => by obtain ⟨y0, y1⟩ := hy; go_simp⟩) hS ?_
        refine wpAnyH_done (by kernel_rfl) ?_ _
        simp only [ZIn, Act.put, List.getElem_toArray, List.getElem_cons_zero, List.getElem_cons_succ, List.setIfInBounds_toArray, List.set_cons_succ, List.set_cons_zero]
        exact ⟨_, _, _, _, _, rfl, r8, hb8⟩
    · go_simp
      have hb1 : Below w2.heap.size w2 (w2.drew.alloc (.cells #[.string x1, .int .i64 x2] 55)) := (Below.refl _ _).drew.alloc (Nat.le_refl _) _
      refine hK.out _ _ ⟨cell_keep hb1 c0, cell_keep hb1 c1⟩ (fun hS => ?_)
      refine wpAnyH_ready (rs := [0]) (by kernel_rfl) (by simp) ?_
      refine AllReadyH.cons rfl (fun K hK => ?_) AllReadyH.nil
      go_simp
      have hb2 : Below w2.heap.size w2 ((w2.drew.alloc (.cells #[.string x1, .int .i64 x2] 55)).alloc (.cells #[] 55)) := hb1.alloc hb1.size _
      have o1 := own_litW (w2.drew.alloc (.cells #[.string x1, .int .i64 x2] 55)) w2.heap.size hb1.size
      have hs1 : (w2.drew.alloc (.cells #[.string x1, .int .i64 x2] 55)).heap.size = w2.heap.size + 1 := by simp
      rw [hs1] at o1
      refine hK.out _ _ ⟨cell_keep hb2 c0, cell_keep hb2 c1⟩ (fun hS => ?_)
      refine wpAnyH_ready (rs := [2]) (by kernel_rfl) (by simp) ?_
      refine AllReadyH.cons rfl (fun K hK => ?_) AllReadyH.nil
      have hux := R2.out.below hb2
      refine xstep_words rfl (.tmp 26) (.tmp 27) w2.heap.size 0 [] X o1 hux rfl rfl (by go_simp) (by go_simp) (by first | omega | exact (hb2).size) (by rw [HNX.out]; omega) ?_
      intro v5 w5 o5 g5 _
      have hb5 := hb2.grown g5 hb2.size (fun k hk => (o1.lt k hk).1)
      refine hK.out _ _ ⟨cell_keep hb5 c0, cell_keep hb5 c1⟩ (fun hS => ?_)
      refine wpAnyH_ready (rs := [5]) (by kernel_rfl) (by simp) ?_
      refine AllReadyH.cons rfl (fun K hK => ?_) AllReadyH.nil
      have hlit := gr_aside ((wrd_litR w2.drew (x1, x2)).below (bel_one _ (.cells #[] 55))) g5 (by simp [Value.ownBlock])
      refine xstep_words rfl (.tmp 28) (.tmp 30) w2.heap.size (0 + X.length) ([] ++ gCells wrdCell X) [(x1, x2)] o5 hlit rfl rfl (by go_simp) (by go_simp) (by first | omega | exact (hb5).size) (by rw [HNX.out]; simp; omega) ?_
      intro v7 w7 o7 g7 _
      have hb7 := hb5.grown g7 hb5.size (fun k hk => (o5.lt k hk).1)
      refine hK.out _ _ ⟨cell_keep hb7 c0, cell_keep hb7 c1⟩ (fun hS => ?_)
      rw [List.nil_append, ← gCells_append] at o7
      have hv7 : WRuns w7 v7 (X ++ [(x1, x2)]) := GRuns.of_own wrd_ln (by simp) o7
      refine wpAnyH_ready (rs := [6]) (by kernel_rfl) (by simp) ?_
      refine AllReadyH.cons rfl (fun K hK => ?_) AllReadyH.nil
      refine xstep_call rfl 29 (.tmp 31) 22 rfl HEG.out (by go_simp) (NM.out v7 w7 hv7) ?_
      rintro e w8 ⟨v8, rfl, r8, b8⟩
      refine ⟨_, rfl, ?_⟩
      have hb8 := hb7.trans (b8.mono hb7.size)
      refine hK.out _ _ ⟨cell_keep hb8 c0, cell_keep hb8 c1⟩ (fun hS => ?_)
      refine wpAnyH_take (i := 7) (v := .tuple #[v8, .int .i64 eb]) rfl (by kernel_rfl) (by kernel_rfl) (by kernel_rfl) (fun _ _ _ h => h) (Or.inl ⟨by rfl, fun wy hy => by obtain ⟨y0, y1⟩ := hy; go_simp⟩) hS ?_
      refine wpAnyH_take (i := 8) (v := v8) rfl (by kernel_rfl) (by kernel_rfl) (by kernel_rfl) (fun _ _ _ h => h) (Or.inl ⟨by rfl, fun wy hy => by obtain ⟨y0, y1⟩ := hy; go_simp⟩) hS ?_
      refine wpAnyH_take (i := 9) (v := .int .i64 eb) rfl (by kernel_rfl) (by kernel_rfl) (by kernel_rfl) (fun _ _ _ h => h) (Or.inl ⟨by rfl, fun wy hy => by obtain ⟨y0, y1⟩ := hy; go_simp⟩) hS ?_
      refine wpAnyH_take (i := 10) (v := v8) rfl (by kernel_rfl) (by kernel_rfl) (by kernel_rfl) (fun _ _ _ h => h) (Or.inl ⟨by rfl, fun wy hy => by obtain ⟨y0, y1⟩ := hy; go_simp⟩) hS ?_
      refine wpAnyH_take (i := 11) (v := .int .i64 eb) rfl (by kernel_rfl) (by kernel_rfl) (by kernel_rfl) (fun _ _ _ h => h) (Or.inl ⟨by rfl, fun wy hy => by obtain ⟨y0, y1⟩ := hy; go_simp⟩) hS ?_
      refine wpAnyH_done (by kernel_rfl) ?_ _
      simp only [ZIn, Act.put, List.getElem_toArray, List.getElem_cons_zero, List.getElem_cons_succ, List.setIfInBounds_toArray, List.set_cons_succ, List.set_cons_zero]
      exact ⟨_, _, _, _, _, rfl, r8, hb8⟩
  rintro a' w3 ⟨u26, u28, u30, u31, v3, rfl, r3, b3⟩
  obtain ⟨A3, k3, e3⟩ := r3.slice
  rw [HNM.out] at e3
  subst e3
  have K3 : Hid (Okw w3) := Lib.hid (K2.out.below b3); have R3 := Lib.hid (R2.out.below b3); have X3 := Lib.hid (X2.out.below b3); have RM3 := Lib.hid r3
  have B3w := Lib.hid (B2.out.trans (b3.mono B2.out.size))
  have hsz3 : B3 < w3.heap.size := X3.out.lt
  clear b3 r3 K2 R2 X2 B2 hsz2 c0 c1 HEG NM
  go_wp2_with fail
  refine (G1.out _ _ R3.out).mono ?_
  rintro e w4 ⟨rfl, b4⟩
  have K4 : Hid (Okw w4) := Lib.hid (K3.out.below b4); have R4 := Lib.hid (R3.out.below b4); have X4 := Lib.hid (X3.out.below b4); have RM4 := Lib.hid (RM3.out.below b4)
  have B4 := Lib.hid (B3w.out.trans (b4.mono B3w.out.size))
  obtain ⟨c0, c1⟩ := X4.out.two
  clear b4 K3 R3 X3 RM3 B3w hsz3 G1
  cases gr
  rotate_left
  · go_wp2
    go_ret
    exact ⟨rfl, B4.out⟩
  by_cases hs1 : 100 < x1.size
  · have hs2 : (100 : Int) < (x1.size : Int) := by omega
    go_wp2
    go_ret
    exact ⟨rfl, B4.out⟩
  have hs2 : ¬ (100 : Int) < (x1.size : Int) := by omega
  by_cases h0 : ea = 0
  rotate_left
  · have h0' : (ea == 0) = false := by simpa using h0
    have h0'' : (ea != 0) = true := by simpa using h0
    go_wp2
    go_ret
    exact ⟨rfl, B4.out⟩
  subst h0
  by_cases h1 : eb = 0
  rotate_left
  · have h1' : (eb == 0) = false := by simpa using h1
    have h1'' : (eb != 0) = true := by simpa using h1
    go_wp2
    go_ret
    exact ⟨rfl, B4.out⟩
  subst h1
  have hn := HWI.out (by first | rfl | trivial)
  obtain ⟨m1, m2, m3, m4⟩ := MF.out (by first | rfl | trivial) (by first | rfl | trivial)
  have hkX := dgOk hn
  have hkM := dgOk m1
  have hriM := rnW_rising m1
  have d1 := fun w' (hO : Okw w') (hv : WRuns w' (.slice Aa nx ka) X) => newd_any (.slice Aa nx ka) X w' hO hv (by rw [HNX.out]; omega) HZN.out
  have d2 := fun w' (hO : Okw w') (hv : WRuns w' (.slice A3 nM k3) M) => newd_any (.slice A3 nM k3) M w' hO hv (by rw [HNM.out]; omega) HZS.out
  have hMl6 : (rnW M).length ≤ 65536 := by rw [show (rnW M).length = M.length by unfold rnW; rw [List.length_map]]; exact (wisS_facts m1).2.2
  obtain ⟨QX, hQX⟩ : ∃ z, staQ (rnW X) = z := ⟨_, rfl⟩
  obtain ⟨WM, hWM⟩ : ∃ z, rnW M = z := ⟨_, rfl⟩
  obtain ⟨QM, hQM⟩ : ∃ z, staQ WM = z := ⟨_, rfl⟩
  rw [hWM] at m3 hkM hriM m2 hMl6
  rw [hQX] at m3 hkX
  rw [hQM] at m3 hkM
  have c5 : ∀ w', Okw w' → WRuns w' (.slice Aa nx ka) X → Calls Tryd.prog 12 #[.slice Aa nx ka] w' fun e w'' => ∃ d, e = .returned (.tuple #[.pointer (some ⟨d, 0, none⟩), .int .i64 0]) ∧ DgAt w'' d QX X ∧ Below w'.heap.size w' w'' := fun w' hO hv => (d1 w' hO hv).mono (by
    rintro e w'' ⟨hb, hp⟩
    rcases hp with ⟨hne, _⟩ | ⟨_, d, e1, hd⟩
    · exact absurd hn hne
    · rw [hQX] at hd
      exact ⟨d, e1, hd, hb⟩)
  have c6 : ∀ w', Okw w' → WRuns w' (.slice A3 nM k3) M → Calls Tryd.prog 12 #[.slice A3 nM k3] w' fun e w'' => ∃ d, e = .returned (.tuple #[.pointer (some ⟨d, 0, none⟩), .int .i64 0]) ∧ DgAt w'' d QM M ∧ Below w'.heap.size w' w'' := fun w' hO hv => (d2 w' hO hv).mono (by
    rintro e w'' ⟨hb, hp⟩
    rcases hp with ⟨hne, _⟩ | ⟨_, d, e1, hd⟩
    · exact absurd m1 hne
    · rw [hWM, hQM] at hd
      exact ⟨d, e1, hd, hb⟩)
  have C5 := Lib.hid (c5 w4 K4.out R4.out); have C6 := Lib.hid c6
  have HKX := Lib.hid hkX; have HKM := Lib.hid hkM; have HRI := Lib.hid hriM; have HQM := Lib.hid hQM; have M2 := Lib.hid m2; have M3 := Lib.hid m3; have M4 := Lib.hid m4; have HMl6 := Lib.hid hMl6
  clear hn m1 m2 m3 m4 hkX hkM hriM d1 d2 hMl6 hQX hWM hQM c5 c6 HWI MF
  go_wp2_with fail
  refine C5.out.mono ?_
  rintro e w5 ⟨dX, rfl, hd5, b5⟩
  have K5 : Hid (Okw w5) := Lib.hid (K4.out.below b5); have R5 := Lib.hid (R4.out.below b5); have X5 := Lib.hid (X4.out.below b5); have RM5 := Lib.hid (RM4.out.below b5)
  have B5 := Lib.hid (B4.out.trans (b5.mono B4.out.size)); have D5 := Lib.hid hd5
  clear b5 hd5 K4 R4 X4 RM4 B4 C5 c0 c1
  go_wp2_with fail
  refine (C6.out w5 K5.out RM5.out).mono ?_
  rintro e w6 ⟨dM, rfl, hd6, b6⟩
  have K6 : Hid (Okw w6) := Lib.hid (K5.out.below b6); have R6 := Lib.hid (R5.out.below b6); have X6 := Lib.hid (X5.out.below b6)
  have B6 := Lib.hid (B5.out.trans (b6.mono B5.out.size)); have D6 := Lib.hid (D5.out.below b6); have E6 := Lib.hid hd6
  have hsz6 : B3 < w6.heap.size := X6.out.lt
  obtain ⟨c0, c1⟩ := X6.out.two
  clear b6 hd6 K5 R5 X5 RM5 B5 D5 C6
  go_wp2
  -- region 11
  refine z_region_in (S := fun a' w' => ∃ (u67 u69 u71 : Value) (A72 : Option Addr) (c72 : Nat), a' = { tmps := #[.slice Aa nx ka, .agg #[.string x1, .int .i64 x2], undef, .pointer (some ⟨B3, 0, none⟩), .bool false, .int .i64 0, .slice A3 nM k3, .int .i64 0, .pointer (some ⟨dX, 0, none⟩), .int .i64 0, .pointer (some ⟨dM, 0, none⟩), .int .i64 0, undef, undef, undef, undef, undef, undef, .bool true, .bool false, .tuple #[.slice Aa nx ka, .int .i64 0], u, .tuple #[.slice Aa nx ka, .int .i64 0], .slice Aa nx ka, .int .i64 0, .tuple #[.slice A3 nM k3, .int .i64 0], u26, .slice Aa nx ka, u28, .agg #[.string x1, .int .i64 x2], u30, u31, .tuple #[.slice A3 nM k3, .int .i64 0], .slice A3 nM k3, .int .i64 0, .slice Aa nx ka, .bool false, .bool false, .pointer (some ⟨B3, 0, none⟩), .string x1, .int .i64 (x1.size : Int), .bool (decide ((100 : Int) < (x1.size : Int))), .bool (decide ((100 : Int) < (x1.size : Int))), .bool (decide ((100 : Int) < (x1.size : Int))), .int .i64 0, .bool false, .bool (decide ((100 : Int) < (x1.size : Int))), .bool (decide ((100 : Int) < (x1.size : Int))), .int .i64 0, .bool false, .bool (decide ((100 : Int) < (x1.size : Int))), .tuple #[.pointer (some ⟨dX, 0, none⟩), .int .i64 0], .slice Aa nx ka, .tuple #[.pointer (some ⟨dX, 0, none⟩), .int .i64 0], .pointer (some ⟨dX, 0, none⟩), .int .i64 0, .tuple #[.pointer (some ⟨dM, 0, none⟩), .int .i64 0], .slice A3 nM k3, .tuple #[.pointer (some ⟨dM, 0, none⟩), .int .i64 0], .pointer (some ⟨dM, 0, none⟩), .int .i64 0, .int .i64 0, .bool false, .bool false, .int .i64 0, .bool false, .bool false, u67, .slice Aa nx ka, u69, .agg #[.string x1, .int .i64 x2], u71, .slice A72 (nx + 1) c72, .int .i64 ((nx + 1 : Nat) : Int), .int .i64 0, undef, undef, undef, undef, undef, undef, undef, undef, undef, undef, undef, undef, undef, undef, undef, undef, undef, undef, undef, undef, undef, undef, undef, undef, undef, undef, undef, undef, undef, undef, undef, undef, undef, undef, undef], defers := [] } ∧ WRuns w' (.slice A72 (nx + 1) c72) (X ++ [(x1, x2)]) ∧ Below w6.heap.size w6 w') ?_ ?_
  · refine wp_region_held_drew (S := fun wx => wx.cell? ⟨B3, 0, none⟩ = some (.string x1) ∧ wx.cell? ⟨B3, 1, none⟩ = some (.int .i64 x2)) (by kernel_rfl) ⟨c0, c1⟩ (fun hS => ?_)
    change wpAnyH _ _ _ _ _ 8 _ _ _
    refine wpAnyH_take (i := 1) (v := .slice Aa nx ka) rfl (by kernel_rfl) (by kernel_rfl) (by kernel_rfl) (fun _ _ _ h => h) (Or.inl ⟨by rfl, fun wy hy => by obtain ⟨y0, y1⟩ := hy; go_simp⟩) hS ?_
    refine wpAnyH_take (i := 3) (v := .agg #[.string x1, .int .i64 x2]) rfl (by kernel_rfl) (by kernel_rfl) (by kernel_rfl) (fun _ _ _ h => h) (Or.inl ⟨by rfl, fun wy hy => by obtain ⟨y0, y1⟩ := hy; go_simp⟩) hS ?_
    refine wpAnyH_take (i := 7) (v := .int .i64 0) rfl (by kernel_rfl) (by kernel_rfl) (by kernel_rfl) (fun _ _ _ h => h) (Or.inl ⟨by rfl, fun wy hy => by obtain ⟨y0, y1⟩ := hy; go_simp⟩) hS ?_
    refine wpAnyH_ready (rs := [0, 4]) (by kernel_rfl) (by simp) ?_
    refine AllReadyH.cons rfl (fun K hK => ?_) (AllReadyH.cons rfl (fun K hK => ?_) AllReadyH.nil)
    · go_simp
      have hb1 : Below w6.heap.size w6 (w6.drew.alloc (.cells #[] 55)) := (Below.refl _ _).drew.alloc (Nat.le_refl _) _
      have o1 := own_litW w6.drew w6.heap.size (Nat.le_refl _)
      refine hK.out _ _ ⟨cell_keep hb1 c0, cell_keep hb1 c1⟩ (fun hS => ?_)
      refine wpAnyH_ready (rs := [2, 4]) (by kernel_rfl) (by simp) ?_
      refine AllReadyH.cons rfl (fun K hK => ?_) (AllReadyH.cons rfl (fun K hK => ?_) AllReadyH.nil)
      · have hux := R6.out.below hb1
        refine xstep_words rfl (.tmp 67) (.tmp 68) w6.heap.size 0 [] X o1 hux rfl rfl (by go_simp) (by go_simp) (by first | omega | exact (hb1).size) (by rw [HNX.out]; omega) ?_
        intro v5 w5 o5 g5 _
        have hb5 := hb1.grown g5 hb1.size (fun k hk => (o1.lt k hk).1)
        refine hK.out _ _ ⟨cell_keep hb5 c0, cell_keep hb5 c1⟩ (fun hS => ?_)
        refine wpAnyH_ready (rs := [4]) (by kernel_rfl) (by simp) ?_
        refine AllReadyH.cons rfl (fun K hK => ?_) AllReadyH.nil
        go_simp
        have hb6 : Below w6.heap.size w6 (w5.alloc (.cells #[.string x1, .int .i64 x2] 55)) := hb5.alloc hb5.size _
        refine hK.out _ _ ⟨cell_keep hb6 c0, cell_keep hb6 c1⟩ (fun hS => ?_)
        refine wpAnyH_ready (rs := [5]) (by kernel_rfl) (by simp) ?_
        refine AllReadyH.cons rfl (fun K hK => ?_) AllReadyH.nil
        have hlit := wrd_litR w5 (x1, x2)
        refine xstep_words rfl (.tmp 69) (.tmp 71) w6.heap.size (0 + X.length) ([] ++ gCells wrdCell X) [(x1, x2)] (o5.alloc _) hlit rfl rfl (by go_simp) (by go_simp) (by first | omega | exact (hb6).size) (by rw [HNX.out]; simp; omega) ?_
        intro v7 w7 o7 g7 _
        have hb7 := hb6.grown g7 hb6.size (fun k hk => (o5.lt k hk).1)
        refine hK.out _ _ ⟨cell_keep hb7 c0, cell_keep hb7 c1⟩ (fun hS => ?_)
        rw [List.nil_append, ← gCells_append] at o7
        have hv7 : WRuns w7 v7 (X ++ [(x1, x2)]) := GRuns.of_own wrd_ln (by simp) o7
        obtain ⟨A7, c7, e7⟩ := hv7.slice
        rw [HLM.out] at e7
        subst e7
        refine wpAnyH_take (i := 6) (v := .int .i64 ((nx + 1 : Nat) : Int)) rfl (by kernel_rfl) (by kernel_rfl) (by kernel_rfl) (fun _ _ _ h => h) (Or.inl ⟨by rfl, fun wy hy => by obtain ⟨y0, y1⟩ := hy; go_simp⟩) hS ?_
        refine wpAnyH_done (by kernel_rfl) ?_ _
        simp only [ZIn, Act.put, List.getElem_toArray, List.getElem_cons_zero, List.getElem_cons_succ, List.setIfInBounds_toArray, List.set_cons_succ, List.set_cons_zero]
        exact ⟨_, _, _, _, _, rfl, hv7, hb7⟩
      · go_simp
        have hb2 : Below w6.heap.size w6 ((w6.drew.alloc (.cells #[] 55)).alloc (.cells #[.string x1, .int .i64 x2] 55)) := hb1.alloc hb1.size _
        refine hK.out _ _ ⟨cell_keep hb2 c0, cell_keep hb2 c1⟩ (fun hS => ?_)
        refine wpAnyH_ready (rs := [2]) (by kernel_rfl) (by simp) ?_
        refine AllReadyH.cons rfl (fun K hK => ?_) AllReadyH.nil
        have hux := R6.out.below hb2
        refine xstep_words rfl (.tmp 67) (.tmp 68) w6.heap.size 0 [] X (o1.alloc _) hux rfl rfl (by go_simp) (by go_simp) (by first | omega | exact (hb2).size) (by rw [HNX.out]; omega) ?_
        intro v5 w5 o5 g5 _
        have hb5 := hb2.grown g5 hb2.size (fun k hk => (o1.lt k hk).1)
        refine hK.out _ _ ⟨cell_keep hb5 c0, cell_keep hb5 c1⟩ (fun hS => ?_)
        refine wpAnyH_ready (rs := [5]) (by kernel_rfl) (by simp) ?_
        refine AllReadyH.cons rfl (fun K hK => ?_) AllReadyH.nil
        have hlit := gr_aside (wrd_litR (w6.drew.alloc (.cells #[] 55)) (x1, x2)) g5 (by simp [Value.ownBlock])
        refine xstep_words rfl (.tmp 69) (.tmp 71) w6.heap.size (0 + X.length) ([] ++ gCells wrdCell X) [(x1, x2)] o5 hlit rfl rfl (by go_simp) (by go_simp) (by first | omega | exact (hb5).size) (by rw [HNX.out]; simp; omega) ?_
        intro v7 w7 o7 g7 _
        have hb7 := hb5.grown g7 hb5.size (fun k hk => (o5.lt k hk).1)
        refine hK.out _ _ ⟨cell_keep hb7 c0, cell_keep hb7 c1⟩ (fun hS => ?_)
        rw [List.nil_append, ← gCells_append] at o7
        have hv7 : WRuns w7 v7 (X ++ [(x1, x2)]) := GRuns.of_own wrd_ln (by simp) o7
        obtain ⟨A7, c7, e7⟩ := hv7.slice
        rw [HLM.out] at e7
        subst e7
        refine wpAnyH_take (i := 6) (v := .int .i64 ((nx + 1 : Nat) : Int)) rfl (by kernel_rfl) (by kernel_rfl) (by kernel_rfl) (fun _ _ _ h => h) (Or.inl ⟨by rfl, fun wy hy => by obtain ⟨y0, y1⟩ := hy; go_simp⟩) hS ?_
        refine wpAnyH_done (by kernel_rfl) ?_ _
        simp only [ZIn, Act.put, List.getElem_toArray, List.getElem_cons_zero, List.getElem_cons_succ, List.setIfInBounds_toArray, List.set_cons_succ, List.set_cons_zero]
        exact ⟨_, _, _, _, _, rfl, hv7, hb7⟩
    · go_simp
      have hb1 : Below w6.heap.size w6 (w6.drew.alloc (.cells #[.string x1, .int .i64 x2] 55)) := (Below.refl _ _).drew.alloc (Nat.le_refl _) _
      refine hK.out _ _ ⟨cell_keep hb1 c0, cell_keep hb1 c1⟩ (fun hS => ?_)
      refine wpAnyH_ready (rs := [0]) (by kernel_rfl) (by simp) ?_
      refine AllReadyH.cons rfl (fun K hK => ?_) AllReadyH.nil
      go_simp
      have hb2 : Below w6.heap.size w6 ((w6.drew.alloc (.cells #[.string x1, .int .i64 x2] 55)).alloc (.cells #[] 55)) := hb1.alloc hb1.size _
      have o1 := own_litW (w6.drew.alloc (.cells #[.string x1, .int .i64 x2] 55)) w6.heap.size hb1.size
      have hs1 : (w6.drew.alloc (.cells #[.string x1, .int .i64 x2] 55)).heap.size = w6.heap.size + 1 := by simp
      rw [hs1] at o1
      refine hK.out _ _ ⟨cell_keep hb2 c0, cell_keep hb2 c1⟩ (fun hS => ?_)
      refine wpAnyH_ready (rs := [2]) (by kernel_rfl) (by simp) ?_
      refine AllReadyH.cons rfl (fun K hK => ?_) AllReadyH.nil
      have hux := R6.out.below hb2
      refine xstep_words rfl (.tmp 67) (.tmp 68) w6.heap.size 0 [] X o1 hux rfl rfl (by go_simp) (by go_simp) (by first | omega | exact (hb2).size) (by rw [HNX.out]; omega) ?_
      intro v5 w5 o5 g5 _
      have hb5 := hb2.grown g5 hb2.size (fun k hk => (o1.lt k hk).1)
      refine hK.out _ _ ⟨cell_keep hb5 c0, cell_keep hb5 c1⟩ (fun hS => ?_)
      refine wpAnyH_ready (rs := [5]) (by kernel_rfl) (by simp) ?_
      refine AllReadyH.cons rfl (fun K hK => ?_) AllReadyH.nil
      have hlit := gr_aside ((wrd_litR w6.drew (x1, x2)).below (bel_one _ (.cells #[] 55))) g5 (by simp [Value.ownBlock])
      refine xstep_words rfl (.tmp 69) (.tmp 71) w6.heap.size (0 + X.length) ([] ++ gCells wrdCell X) [(x1, x2)] o5 hlit rfl rfl (by go_simp) (by go_simp) (by first | omega | exact (hb5).size) (by rw [HNX.out]; simp; omega) ?_
      intro v7 w7 o7 g7 _
      have hb7 := hb5.grown g7 hb5.size (fun k hk => (o5.lt k hk).1)
      refine hK.out _ _ ⟨cell_keep hb7 c0, cell_keep hb7 c1⟩ (fun hS => ?_)
      rw [List.nil_append, ← gCells_append] at o7
      have hv7 : WRuns w7 v7 (X ++ [(x1, x2)]) := GRuns.of_own wrd_ln (by simp) o7
      obtain ⟨A7, c7, e7⟩ := hv7.slice
      rw [HLM.out] at e7
      subst e7
      refine wpAnyH_take (i := 6) (v := .int .i64 ((nx + 1 : Nat) : Int)) rfl (by kernel_rfl) (by kernel_rfl) (by kernel_rfl) (fun _ _ _ h => h) (Or.inl ⟨by rfl, fun wy hy => by obtain ⟨y0, y1⟩ := hy; go_simp⟩) hS ?_
      refine wpAnyH_done (by kernel_rfl) ?_ _
      simp only [ZIn, Act.put, List.getElem_toArray, List.getElem_cons_zero, List.getElem_cons_succ, List.setIfInBounds_toArray, List.set_cons_succ, List.set_cons_zero]
      exact ⟨_, _, _, _, _, rfl, hv7, hb7⟩
  rintro a' w7 ⟨u67, u69, u71, A72, c72, rfl, r7, b7⟩
  have K7 : Hid (Okw w7) := Lib.hid (K6.out.below b7); have X7 := Lib.hid (X6.out.below b7); have R7 := Lib.hid r7
  have B7 := Lib.hid (B6.out.trans (b7.mono B6.out.size)); have D7 := Lib.hid (D6.out.below b7); have E7 := Lib.hid (E6.out.below b7)
  clear b7 r7 K6 R6 X6 B6 D6 E6 c0 c1 hsz6
  obtain ⟨nl, hnl⟩ : ∃ z, nx + 1 = z := ⟨_, rfl⟩
  rw [hnl] at R7 HLM ⊢
  have pl := fun w' (hO : Okw w') (hd : DgAt w' dM QM M) (y : ByteArray) (hy : y.size * 4 ≤ 140737488355328) => place_any w' hO dM M WM HRI.out QM HQM.out hd HKM.out HMl6.out y hy
  have plz : ∀ y1 y2, (y1, y2) ∈ X ++ [(x1, x2)] → y1.size * 4 ≤ 140737488355328 ∧ plcE WM y1.data.toList = 0 := fun y1 y2 hy => ⟨by
    rcases List.mem_append.1 hy with h' | h'
    · have := HZN.out _ h'; simp only at this; omega
    · have e := List.mem_singleton.1 h'
      simp only [Prod.mk.injEq] at e
      rw [e.1]; omega, by unfold plcE; rw [if_pos (M2.out _ hy)]⟩
  have PL := Lib.hid pl; have PLZ := Lib.hid plz
  clear pl plz
  go_wp2
  go_loopw [74] (fun s74 wr => ∃ j : Nat, s74 = .int .i64 (j : Int) ∧ j ≤ nl ∧ Hid (Below w.heap.size w wr) ∧ Hid (Below w7.heap.size w7 wr)) (fun s74 _ => nl - (RowKit.intOf s74).toNat)
  case atStart => exact ⟨0, rfl, Nat.zero_le _, B7, Lib.hid (Below.refl _ _)⟩
  case round =>
    obtain ⟨j, rfl, hjn, HB, HBB⟩ := hrel
    by_cases hj : j < nl
    · obtain ⟨⟨y1, y2⟩, hy⟩ : ∃ y, (X ++ [(x1, x2)])[j]? = some y := ⟨_, List.getElem?_eq_getElem (by rw [HLM.out]; exact hj)⟩
      obtain ⟨b, o, rfl, _, hc⟩ := (R7.out.below HBB.out).cells HLM.out (by omega)
      obtain ⟨g0, g1⟩ := wrd_cells hc hy
      simp only at g0 g1
      have i1 : (j : Int) < (nl : Int) := by omega
      obtain ⟨z1, z2⟩ := PLZ.out y1 y2 (List.mem_of_getElem? hy)
      have hal : Hid (∀ o : Obj, Below wr.heap.size wr (wr.alloc o)) := Lib.hid (fun o => bel_one wr o)
      have cp := fun w' (hb : Below wr.heap.size wr w') => PL.out w' ((K7.out.below HBB.out).below hb) ((E7.out.below HBB.out).below hb) y1 z1
      rw [z2] at cp
      obtain ⟨pv, hpv⟩ : ∃ z, plcV WM y1.data.toList = z := ⟨_, rfl⟩
      rw [hpv] at cp
      have CP := Lib.hid cp
      clear hc hy z1 z2 cp hpv
      go_wp2_with fail
      refine (CP.out _ (hal.out _)).mono ?_
      rintro e w11 ⟨rfl, b11⟩
      have h11 := (hal.out _).trans (b11.mono (hal.out _).size)
      have hf1 := Lib.hid (HB.out.trans (h11.mono HB.out.size)); have hf2 := Lib.hid (HBB.out.trans (h11.mono HBB.out.size))
      clear b11 h11 CP hal
      go_wp2
      exact ⟨⟨j + 1, by go_num, by omega, hf1, hf2⟩, by simp [RowKit.intOf]; omega⟩
    · obtain rfl : j = nl := by omega
      have i1 : ¬ (j : Int) < (j : Int) := by omega
      have KR : Hid (Okw wr) := Lib.hid (K7.out.below HBB.out)
      obtain ⟨c0, c1⟩ := (X7.out.below HBB.out).two
      obtain ⟨e1, e2⟩ := dec_runes10 M4.out
      have cd := decode_runs x1 wr (by omega) KR.out.1 KR.out.2
      rw [e1, e2] at cd
      obtain ⟨nr, hnr⟩ : ∃ z, (rnK x1).length = z := ⟨_, rfl⟩
      obtain ⟨qx, hqx⟩ : ∃ z, QX.length = z := ⟨_, rfl⟩
      obtain ⟨qm, hqm⟩ : ∃ z, QM.length = z := ⟨_, rfl⟩
      rw [hnr] at cd
      have m3 := M3.out
      rw [hnr, hqx, hqm] at m3
      have hqb : qx ≤ 6000000 := by rw [← hqx]; have := HKX.out.qm; omega
      have hnb2 : nr ≤ 2000000 := by
        rw [← hnr]
        have := items_le x1.data.toList
        rw [← Lib.size_eq] at this
        show (items x1.data.toList).length ≤ _
        omega
      have cl := fun w' (hb : Below wr.heap.size wr w') => len_any w' dM QM M ((E7.out.below HBB.out).below hb)
      have cs1 := fun w' (hb : Below wr.heap.size wr w') => states_any w' dM QM M ((E7.out.below HBB.out).below hb) HKM.out
      have cs2 := fun w' (hb : Below wr.heap.size wr w') => states_any w' dX QX X ((D7.out.below HBB.out).below hb) HKX.out
      simp only [HNM.out] at cl
      simp only [hqm] at cs1
      simp only [hqx] at cs2
      have wm1 := z_mul2 qx hqb
      have wm2 := z_mul2a qx nr hqb hnb2
      have hle : (qm : Int) ≤ 2 * (qx : Int) + (nr : Int) := by omega
      have CD := Lib.hid cd; have CL := Lib.hid cl; have CS1 := Lib.hid cs1; have CS2 := Lib.hid cs2
      clear e1 e2 cd hnr hqx hqm m3 hqb hnb2 cl cs1 cs2 PL PLZ
      go_wp2_with fail
      refine CD.out.mono ?_
      rintro e w11 ⟨A11, c11, rfl, hr11, b11⟩
      have BB11 := Lib.hid b11; have B11 := Lib.hid (HB.out.trans (b11.mono HB.out.size))
      clear b11 hr11 CD
      go_wp2_with fail
      refine (CL.out _ BB11.out).mono ?_
      rintro e w' ⟨rfl, e1⟩
      obtain rfl := e1.symm
      go_wp2_with fail
      refine (CS1.out _ BB11.out).mono ?_
      rintro e w' ⟨rfl, e1⟩
      obtain rfl := e1.symm
      go_wp2_with fail
      refine (CS2.out _ BB11.out).mono ?_
      rintro e w' ⟨rfl, e1⟩
      obtain rfl := e1.symm
      go_wp2
      go_ret
      exact ⟨by first | rfl | exact ret_bool (by simp [hle]), B11.out⟩
end Go.Proofs.YtnjhbblhlgpgdaaDoor
