/- Texts that several proofs of this seat share, one behind the other: QMake VLaw RRef LDigits LRow. -/
import Derived.Test.YtnognphjndpgkaaGreatDoorPk13
import Derived.Test.YtnognphjndpgkaaGreatDoorPk11
import Derived.Test.YtnognphjndpgkaaGreatDoorPk14
import Derived.Test.YtnognphjndpgkaaGreatDoorPk12
import Derived.Test.YtnognphjndpgkaaGreatDoorPk9
import Derived.Test.YtnognphjndpgkaaGreatDoorPk1
import Derived.Test.YtnognphjndpgkaaGreatDoorProg
import Derived.OwnWalk
import Derived.Maps.AppendAt
/- rule.Make: the rules of those blocks of a table that were seen often enough. -/
namespace Go.Proofs.YtnognphjndpgkaaGreatDoor
open Go.RowKit Go.Shelf
set_option linter.unusedSimpArgs false
set_option linter.unusedVariables false

/-- Make's error, and its rules. -/
def mkE (l : List Blk) (n : Int) : Int := if chkT l = 0 then (if n < 1 ∨ 1073741824 < n then 2 else 0) else chkT l
def mkS (l : List Blk) (n : Int) : List Blk := if mkE l n = 0 then mkR l n else []
/-- The rules of the first blocks. -/
def mkK (l : List Blk) (n : Int) (k : Nat) : List Blk := ((l.take k).filter (fun b => decide (n ≤ b.2.2))).map (ruleB l)
theorem mkK_zero (l : List Blk) (n : Int) : mkK l n 0 = [] := by simp [mkK]
theorem mkK_all (l : List Blk) (n : Int) : mkK l n l.length = mkR l n := by rw [mkK, List.take_length, mkR]
theorem mkK_next {l : List Blk} (n : Int) (k : Nat) (x : Blk) (h : l[k]? = some x) : (x.2.2 < n → mkK l n (k + 1) = mkK l n k) ∧ (¬ x.2.2 < n → mkK l n (k + 1) = mkK l n k ++ [ruleB l x]) := by
  unfold mkK
  rw [List.take_add_one, h, List.filter_append, List.map_append]
  refine ⟨fun hx => ?_, fun hx => ?_⟩
  · have : decide (n ≤ x.2.2) = false := decide_eq_false (by omega)
    simp [this]
  · have : decide (n ≤ x.2.2) = true := decide_eq_true (by omega)
    simp [this]
theorem mkK_len (l : List Blk) (n : Int) (k : Nat) : (mkK l n k).length ≤ k := by
  unfold mkK
  rw [List.length_map]
  refine Nat.le_trans (List.length_filter_le _ _) ?_
  rw [List.length_take]; omega
theorem szL_mk {l : List Blk} (h : szL l) (n : Int) : szL (mkR l n) := fun r hr => by
  obtain ⟨b, hb, _, rfl⟩ := mk_mem.1 hr
  exact h b hb

set_option maxRecDepth 100000 in
set_option maxHeartbeats 8000000 in
theorem rmake_any (u : Value) (l : List Blk) (least : Int) (w : World) (hO : Okw w) (hu : BRuns w u l) (hl : l.length ≤ 2000000) (hz : szL l) :
    Calls Tryz.prog 8 #[u, .int .i64 least] w fun e w' => ∃ v, e = .returned (.tuple #[v, .int .i64 (mkE l least)]) ∧ BRuns w' v (mkS l least) ∧ Below w.heap.size w w' := by
  have ct := total_any u l w hO hu hl hz
  obtain ⟨A, c, e⟩ := hu.slice
  subst e
  have hE : mkE l least = if chkT l = 0 then (if least < 1 ∨ 1073741824 < least then 2 else 0) else chkT l := rfl
  have hS : mkS l least = if mkE l least = 0 then mkR l least else [] := rfl
  have hF : chkT l = 0 → totS l = sumN l ∧ posN l ∧ l.length ≤ 4096 ∧ sumN l ≤ 1073741824 := fun h => by
    obtain ⟨h1, _, h3, h4⟩ := chkT_facts h
    exact ⟨by rw [totS, if_pos h], posN_of h1, h3, h4⟩
  have HZ := Lib.hid (szL_mk hz least)
  obtain ⟨ea, hea⟩ : ∃ z, chkT l = z := ⟨_, rfl⟩
  obtain ⟨er, her⟩ : ∃ z, mkE l least = z := ⟨_, rfl⟩
  obtain ⟨Y, hY⟩ : ∃ z, mkS l least = z := ⟨_, rfl⟩
  obtain ⟨T, hT⟩ : ∃ z, totS l = z := ⟨_, rfl⟩
  rw [her] at hE hS ⊢
  rw [hY] at hS ⊢
  rw [hea] at hE ct hF
  rw [hT] at ct hF
  obtain ⟨n, hn⟩ : ∃ n, l.length = n := ⟨_, rfl⟩
  rw [hn] at ct hl hu hF ⊢
  have CT := Lib.hid ct; have HN := Lib.hid hn; have HU := Lib.hid hu; have HE := Lib.hid hE; have HS := Lib.hid hS; have HF := Lib.hid hF
  clear ct hn hu hO hz hE hS hF hea her hY hT
  go_enter Tryz.func8, Tryz.ntmps8
  go_wp2_with fail
  refine CT.out.mono ?_
  rintro e w1 ⟨rfl, b1⟩
  have U1 := Lib.hid (HU.out.below b1)
  have B1 := Lib.hid b1
  clear b1 CT
  by_cases h0 : ea = 0
  · subst h0
    obtain ⟨t1, t2, t3, t4⟩ := HF.out (by first | rfl | trivial)
    by_cases h1 : least < 1
    · have hEr : er = 2 := by rw [HE.out, if_pos (by first | rfl | trivial), if_pos (.inl h1)]
      subst hEr
      have hYs : Hid (Y = []) := Lib.hid (by rw [HS.out]; simp)
      clear t1 t2
      go_wp2
      go_ret2
      exact ⟨_, rfl, by rw [hYs.out]; exact GRuns.nil_ _ _ _, B1.out⟩
    by_cases h2 : 1073741824 < least
    · have hEr : er = 2 := by rw [HE.out, if_pos (by first | rfl | trivial), if_pos (.inr h2)]
      subst hEr
      have hYs : Hid (Y = []) := Lib.hid (by rw [HS.out]; simp)
      clear t1 t2
      go_wp2
      go_ret2
      exact ⟨_, rfl, by rw [hYs.out]; exact GRuns.nil_ _ _ _, B1.out⟩
    have hEr : er = 0 := by rw [HE.out, if_pos (by first | rfl | trivial), if_neg (by omega)]
    subst hEr
    have hYs : Hid (Y = mkR l least) := Lib.hid (by rw [HS.out]; simp)
    have hpos := sumN_nonneg (l := l) t2
    obtain ⟨t, ht⟩ : ∃ t : Nat, T = (t : Int) := ⟨T.toNat, by omega⟩
    subst ht
    have HM := Lib.hid (fun b hb => mem_sumN t2 b hb)
    have htn : (sumN l).toNat = t := by omega
    have ht1 : t ≤ 1073741824 := by omega
    have HT1 := Lib.hid t1; have HT2 := Lib.hid t2; have HTN := Lib.hid htn
    clear t1 t2 t4 hpos htn HE HS HF
    have HG : Hid (∀ (N3 : Nat) (a b : ByteArray), ruleB l (a, b, (N3 : Int)) = (a, b, ((costN t n N3 : Nat) : Int))) := Lib.hid (fun N3 a b => by
      show (a, b, ((costK (sumN l).toNat l.length (N3 : Int).toNat : Nat) : Int)) = _
      rw [HTN.out, HN.out, Int.toNat_natCast]; rfl)
    have CO := Lib.hid cost_ok
    go_wp2
    go_loopw [8, 29] (fun s8 s29 wr => ∃ k : Nat, k ≤ n ∧ s29 = .int .i64 k ∧ Hid (wr.ownsRow w.heap.size 37 3 s8 (mkK l least k).length (gCells blkCell (mkK l least k))) ∧ Hid (Below w.heap.size w wr)) (fun _ s29 _ => n - (RowKit.intOf s29).toNat)
    case atStart => exact ⟨0, Nat.zero_le _, rfl, Lib.hid (by rw [mkK_zero]; exact World.ownsRow_nil _ _ _ _), B1⟩
    case round =>
      obtain ⟨k, hkn, rfl, HO, BW⟩ := hrel
      by_cases hk : k < n
      · have k1 : (k : Int) < (n : Int) := by omega
        obtain ⟨⟨p1, p2, p3⟩, hp⟩ : ∃ p, l[k]? = some p := ⟨_, List.getElem?_eq_getElem (by rw [HN.out]; exact hk)⟩
        obtain ⟨b, o, rfl, _, hc⟩ := (HU.out.below BW.out).cells HN.out (by omega)
        obtain ⟨g0, g1, g2⟩ := blk_cells hc hp
        simp only at g0 g1 g2
        have hm := HM.out _ (List.mem_of_getElem? hp)
        have hps := HT2.out _ (List.mem_of_getElem? hp)
        have hnx := mkK_next least k _ hp
        simp only at hm hps hnx
        have e1 := HT1.out
        obtain ⟨N3, hN3⟩ : ∃ N3 : Nat, p3 = (N3 : Int) := ⟨p3.toNat, by omega⟩
        subst hN3
        have hNt : N3 ≤ t := by omega
        rw [HG.out] at hnx
        have hln := mkK_len l least k
        obtain ⟨M, hM⟩ : ∃ z, mkK l least k = z := ⟨_, rfl⟩
        rw [hM] at hnx hln HO
        obtain ⟨m, hmm⟩ : ∃ z, M.length = z := ⟨_, rfl⟩
        rw [hmm] at hln HO
        have GR := GRuns.of_own rl_ln hmm HO.out
        obtain ⟨A3, c3, e3⟩ := GR.slice
        rw [hmm] at e3
        subst e3
        have HNX := Lib.hid hnx; have HMM := Lib.hid hmm
        have hal := blw_one wr (.cells #[.string p1, .string p2, .int .i64 (N3 : Int)] 34)
        obtain ⟨x0, x1, x2⟩ := cells3_new wr (.string p1) (.string p2) (.int .i64 (N3 : Int)) 34
        have hltb : wr.heap.size < (wr.alloc (.cells #[.string p1, .string p2, .int .i64 (N3 : Int)] 34)).heap.size := by simp
        obtain ⟨wa, hwa⟩ : ∃ z, wr.alloc (.cells #[.string p1, .string p2, .int .i64 (N3 : Int)] 34) = z := ⟨_, rfl⟩
        rw [hwa] at hal x0 x1 x2 hltb
        obtain ⟨bx, hbx⟩ : ∃ z, wr.heap.size = z := ⟨_, rfl⟩
        rw [hbx] at x0 x1 x2 hltb
        have BA : Hid (Below w.heap.size w wa) := Lib.hid (BW.out.trans (hal.mono BW.out.size))
        have OA : Hid (wa.ownsRow w.heap.size 37 3 (.slice A3 m c3) m (gCells blkCell M)) := Lib.hid (own_below HO.out hal)
        have HWA := Lib.hid hwa; have HBX := Lib.hid hbx
        clear hc hp hm hps hnx hM hmm GR hal hwa hbx HO e1
        by_cases hlt : (N3 : Int) < least
        · have hnew : Hid (mkK l least (k + 1) = M) := Lib.hid (HNX.out.1 hlt)
          clear HNX
          go_wp2
          rw [HWA.out]
          exact ⟨⟨k + 1, by omega, by go_num, Lib.hid (by rw [hnew.out, HMM.out]; exact OA.out), BA⟩, by simp [RowKit.intOf]; omega⟩
        · have hnew : Hid (mkK l least (k + 1) = M ++ [(p1, p2, ((costN t n N3 : Nat) : Int))]) := Lib.hid (HNX.out.2 hlt)
          have cc := CO.out t n N3 ht1 (by omega) t3 hNt wa
          obtain ⟨cs, hcs⟩ : ∃ z, costN t n N3 = z := ⟨_, rfl⟩
          rw [hcs] at cc hnew
          have C := Lib.hid cc
          clear HNX cc hcs
          go_wp2_with fail
          rw [HWA.out, HBX.out]
          refine C.out.mono ?_
          rintro e w5 ⟨rfl, b5⟩
          have y0 := (b5.cell (p := ⟨bx, 0, none⟩) hltb).trans x0
          have y1 := (b5.cell (p := ⟨bx, 1, none⟩) hltb).trans x1
          have B5 : Below w.heap.size w w5 := BA.out.trans (b5.mono BA.out.size)
          have O5 := own_below OA.out b5
          obtain ⟨v', w6, hrun, o6, g6, at6⟩ := append_one (P := Tryz.prog) rl_ln rl_one info_rule rfl (by decide) (by decide) Tryz.underlying26 w5 w.heap.size _ m _ O5 (p1, p2, ((cs : Nat) : Int)) B5.size (by omega)
          have B6 : Hid (Below w.heap.size w w6) := Lib.hid ((B5.alloc B5.size _).grown g6 (by simp; exact Nat.le_succ_of_le B5.size) (fun k hk => (O5.lt k hk).1))
          have O6 : Hid (w6.ownsRow w.heap.size 37 3 v' (mkK l least (k + 1)).length (gCells blkCell (mkK l least (k + 1)))) := Lib.hid (by
            rw [hnew.out, List.length_append, HMM.out, gCells_append]
            simpa [gCells] using o6)
          have hrun' : (Builtin.append_ #[26, 26] 26 #[.slice A3 m c3, .slice (some ⟨w5.heap.size, 0, none⟩) 1 1]).run Tryz.prog (w5.alloc (.cells #[.string p1, .string p2, .int .i64 ((cs : Nat) : Int)] 37)) = .ok v' w6 := hrun
          have HRUN := Lib.hid hrun'
          clear b5 x0 x1 x2 g0 g1 g2 B5 O5 hrun hrun' o6 g6 at6 hnew
          go_wp2_with (at_builtin; refine wpList_append_run (.tmp 46) (.tmp 53) 26 _ _ _ _ HRUN.out rfl rfl rfl rfl ?_)
          exact ⟨⟨k + 1, by omega, by go_num, O6, B6⟩, by simp [RowKit.intOf]; omega⟩
      · obtain rfl : k = n := by omega
        have hall : mkK l least k = mkR l least := by rw [← HN.out]; exact mkK_all l least
        rw [hall] at HO
        obtain ⟨M, hM⟩ : ∃ z, mkR l least = z := ⟨_, rfl⟩
        rw [hM] at HO hYs HZ
        have hln : M.length ≤ k := by rw [← hM, ← hall]; exact mkK_len l least k
        have GR := GRuns.of_own rl_ln rfl HO.out
        obtain ⟨A3, c3, e3⟩ := GR.slice
        subst e3
        have cr := renewed_any _ M wr GR (by omega) HZ.out
        obtain ⟨m, hmm⟩ : ∃ z, M.length = z := ⟨_, rfl⟩
        rw [hmm] at cr ⊢
        have CR := Lib.hid cr; have HMM := Lib.hid hmm
        clear cr hmm GR HO hall hM hln
        go_wp2_with fail
        refine CR.out.mono ?_
        rintro e w5 ⟨v5, rfl, o5, b5⟩
        have B5 := Lib.hid (BW.out.trans (b5.mono BW.out.size))
        have R5 := Lib.hid (GRuns.of_own rl_ln HMM.out o5)
        clear o5 b5
        go_wp2
        go_ret2
        exact ⟨v5, rfl, by rw [hYs.out]; exact R5.out, B5.out⟩
  · have h0' : (ea == 0) = false := by simpa using h0
    have hEr : er = ea := by rw [HE.out, if_neg h0]
    subst hEr
    have hYs : Hid (Y = []) := Lib.hid (by rw [HS.out, if_neg h0])
    go_wp2
    go_ret2
    exact ⟨_, rfl, by rw [hYs.out]; exact GRuns.nil_ _ _ _, B1.out⟩
end Go.Proofs.YtnognphjndpgkaaGreatDoor

/- great, alive of layer 7: which rules are looked at; the document's example. -/
namespace Go.Proofs.YtnognphjndpgkaaGreatDoor
open Go.RowKit Go.Shelf
set_option linter.unusedSimpArgs false
set_option linter.unusedVariables false

/-- Whether rules are more than are looked at. -/
def grB (l : List Blk) : Bool := decide (500 < l.length) || decide (8000 < smT l)
theorem grB_no {l : List Blk} (h : grB l = false) : notGreat l := by
  unfold grB at h
  rw [Bool.or_eq_false_iff] at h
  have h1 := of_decide_eq_false h.1
  have h2 := of_decide_eq_false h.2
  exact ⟨by omega, fun b hb => by have := smT_mem l b hb; omega⟩
theorem lit_rules (D : World) (L : List Blk) (h : L.length ≤ 1000) : GRuns blkCell 3 (D.alloc (.cells (gCells blkCell L).toArray 37)) (.slice (some ⟨D.heap.size, 0, none⟩) L.length L.length) L := by
  refine GRuns.of_own (base := 0) (n := L.length) rl_ln rfl ⟨gCells_len rl_ln L, .inr ⟨D.heap.size, L.length, (gCells blkCell L).toArray, rfl, Nat.zero_le _, heap_alloc_new D _, Nat.le_refl _, by unfold maxLen; omega, ?_, ?_⟩⟩
  · rw [List.size_toArray, gCells_len rl_ln]
  · show (gCells blkCell L).take (L.length * 3) = _
    rw [List.take_of_length_le (by rw [gCells_len rl_ln]; exact Nat.le_refl _)]
/-- The document's example. -/
def Alive7 : Prop := ∀ w, Okw w → Calls Tryz.prog 4 #[] w fun e w' => e = .returned (.bool true) ∧ Below w.heap.size w w'
theorem ex7 : mkE [(⟨#[108]⟩, ⟨#[105]⟩, 1), (⟨#[114, 110]⟩, ⟨#[109]⟩, 2)] 2 = 0 ∧ mkS [(⟨#[108]⟩, ⟨#[105]⟩, 1), (⟨#[114, 110]⟩, ⟨#[109]⟩, 2)] 2 = [(⟨#[114, 110]⟩, ⟨#[109]⟩, 11)] := by
  decide +kernel
theorem ex7c : rchk (⟨#[]⟩, ⟨#[]⟩, 0) = 7 := by decide +kernel
set_option maxRecDepth 100000 in
set_option maxHeartbeats 4000000 in
theorem alive7_any : Alive7 := by
  intro w h
  have r0 := lit_blks w [(⟨#[108]⟩, ⟨#[105]⟩, 1), (⟨#[114, 110]⟩, ⟨#[109]⟩, 2)] (by simp)
  change GRuns blkCell 3 (w.alloc (.cells #[.string ⟨#[108]⟩, .string ⟨#[105]⟩, .int .i64 1, .string ⟨#[114, 110]⟩, .string ⟨#[109]⟩, .int .i64 2] 34)) (.slice (some ⟨w.heap.size, 0, none⟩) 2 2) _ at r0
  have b0 := blw_one w (.cells #[.string ⟨#[108]⟩, .string ⟨#[105]⟩, .int .i64 1, .string ⟨#[114, 110]⟩, .string ⟨#[109]⟩, .int .i64 2] 34)
  obtain ⟨wa, hwa⟩ : ∃ z, w.alloc (.cells #[.string ⟨#[108]⟩, .string ⟨#[105]⟩, .int .i64 1, .string ⟨#[114, 110]⟩, .string ⟨#[109]⟩, .int .i64 2] 34) = z := ⟨_, rfl⟩
  rw [hwa] at r0 b0
  have c1 := rmake_any (.slice (some ⟨w.heap.size, 0, none⟩) 2 2) [(⟨#[108]⟩, ⟨#[105]⟩, 1), (⟨#[114, 110]⟩, ⟨#[109]⟩, 2)] 2 wa (h.below b0) r0 (by simp) (fun b hb => by
    simp only [List.mem_cons, List.mem_nil_iff, or_false] at hb
    rcases hb with rfl | rfl <;> exact ⟨by decide, by decide⟩)
  have c2 := fun w hO => rcheck_any ⟨#[]⟩ ⟨#[]⟩ 0 w hO (by decide) (by decide)
  rw [ex7.1, ex7.2] at c1
  simp only [ex7c] at c2
  have C1 := Lib.hid c1; have C2 := Lib.hid c2; have HWA := Lib.hid hwa; have HB0 := Lib.hid b0; have HOK := Lib.hid (h.below b0)
  clear c1 c2 hwa b0 r0
  go_enter Tryz.func4, Tryz.ntmps4
  go_wp2_with fail
  rw [HWA.out]
  refine C1.out.mono ?_
  rintro e w1 ⟨v, rfl, r1, b1⟩
  obtain ⟨A, c, rfl⟩ := r1.slice
  obtain ⟨b, o, rfl, hlt, hc⟩ := r1.cells rfl (by simp)
  obtain ⟨f0, f1, f2⟩ := blk_cells (j := 0) hc rfl
  simp at f0 f1 f2
  have K1 : Hid (Okw w1) := Lib.hid (HOK.out.below b1)
  have B1 := Lib.hid (HB0.out.trans (b1.mono HB0.out.size))
  clear hc r1 b1
  simp only [List.length_cons, List.length_nil, Nat.zero_add]
  go_wp2_with fail
  refine (C2.out _ K1.out).mono ?_
  rintro e w4 ⟨rfl, b4⟩
  have B4 := Lib.hid (B1.out.trans (b4.mono B1.out.size)); clear b4
  go_wp2
  go_ret
  exact ⟨rfl, B4.out⟩
end Go.Proofs.YtnognphjndpgkaaGreatDoor

/- errataref07.Check, Less, all, Is, Find, Same: what each answers. -/
namespace Go.Proofs.YtnognphjndpgkaaGreatDoor
open Go.RowKit Go.Shelf
set_option linter.unusedSimpArgs false
set_option linter.unusedVariables false

theorem rall_append (a b : List Blk) : rall (a ++ b) = if rall a = 0 then rall b else rall a := by
  induction a with
  | nil => simp [rall]
  | cons x a ih =>
    rw [List.cons_append, rall, rall, ih]
    by_cases h : rchk x = 0
    · simp only [h, if_true]
    · simp only [h, if_false]
theorem rall_take {l : List Blk} (k : Nat) (x : Blk) (h : l[k]? = some x) (h0 : rall (l.take k) = 0) : (rchk x = 0 → rall (l.take (k + 1)) = 0) ∧ (rchk x ≠ 0 → rall l = rchk x) := by
  refine ⟨fun hx => ?_, fun hx => ?_⟩
  · rw [List.take_add_one, h, rall_append, if_pos h0]; simp [rall, hx]
  · have e : l = l.take k ++ x :: l.drop (k + 1) := by
      have hk := (List.getElem?_eq_some_iff.1 h).1
      have hx2 := (List.getElem?_eq_some_iff.1 h).2
      rw [← hx2, ← List.drop_eq_getElem_cons hk, List.take_append_drop]
    rw [e, rall_append, if_pos h0, rall, if_neg hx]
theorem cells3_box (w : World) (a b c : Value) (t : TypeId) : (w.alloc (.cells #[a, b, c] t)).cell? ⟨w.heap.size, 0, none⟩ = some a ∧ (w.alloc (.cells #[a, b, c] t)).cell? ⟨w.heap.size, 1, none⟩ = some b ∧ (w.alloc (.cells #[a, b, c] t)).cell? ⟨w.heap.size, 2, none⟩ = some c := by
  have h := heap_alloc_new w (.cells #[a, b, c] t)
  refine ⟨?_, ?_, ?_⟩ <;> (rw [cell_of_row _ _ _ _ _ _ h]; rfl)
set_option maxRecDepth 100000 in
set_option maxHeartbeats 4000000 in
theorem refSame7_any (u v : Value) (x y : List Blk) (w : World) (hx : BRuns w u x) (hy : BRuns w v y) :
    Calls Tryz.prog 7 #[u, v] w fun e w' => e = .returned (.bool (decide (x = y))) ∧ Drawn w w' := by
  obtain ⟨A, c, rfl, hxc, ⟨hxm, _⟩, hxx⟩ := hx
  obtain ⟨B, d, rfl, hyc, ⟨hym, _⟩, hyy⟩ := hy
  unfold maxLen at hxm hym
  obtain ⟨n, hn⟩ : ∃ n, x.length = n := ⟨_, rfl⟩
  obtain ⟨m, hm⟩ : ∃ m, y.length = m := ⟨_, rfl⟩
  obtain ⟨res, hr⟩ : ∃ r, decide (x = y) = r := ⟨_, rfl⟩
  rw [hr]
  rw [hn] at hxc hxx ⊢
  rw [hm] at hyc hyy ⊢
  have Hn := Lib.hid hn; have Hm := Lib.hid hm; have HR := Lib.hid hr
  have HX := Lib.hid hxx; have HY := Lib.hid hyy
  clear hn hm hr hxx hyy
  by_cases hnm : n = m
  · subst hnm
    go_enter Tryz.func7, Tryz.ntmps7
    go_wp2
    go_loopg [13] n (fun g s13 wr => ∃ k q : Nat, k ≤ n ∧ n - k ≤ g ∧ s13 = .int .i64 k ∧ wr = w.drewN q ∧ Hid (x.take k = y.take k))
    case atStart => exact ⟨0, 0, Nat.zero_le _, by omega, rfl, rfl, Lib.hid (by simp)⟩
    case round =>
      obtain ⟨k, q, hkn, hg, rfl, rfl, HC⟩ := hrel
      by_cases h1 : k < n
      · obtain ⟨b, o, rfl, hb, hc1⟩ := HX.out (by omega)
        obtain ⟨b', o', rfl, hb', hc2⟩ := HY.out (by omega)
        obtain ⟨⟨p1, p2, p3⟩, hp⟩ : ∃ p, x[k]? = some p := ⟨_, List.getElem?_eq_getElem (by rw [Hn.out]; exact h1)⟩
        obtain ⟨⟨q1, q2, q3⟩, hq⟩ : ∃ p, y[k]? = some p := ⟨_, List.getElem?_eq_getElem (by rw [Hm.out]; exact h1)⟩
        obtain ⟨e1, e2, e3⟩ := blk_cells hc1 hp
        obtain ⟨f1, f2, f3⟩ := blk_cells hc2 hq
        simp only at e1 e2 e3 f1 f2 f3
        clear hc1 hc2
        have NE : Hid ((p1, p2, p3) ≠ (q1, q2, q3) → x ≠ y) := Lib.hid (fun hne e => hne (by rw [e, hq] at hp; exact (Option.some.inj hp).symm))
        have ST : Hid ((p1, p2, p3) = (q1, q2, q3) → x.take (k + 1) = y.take (k + 1)) := Lib.hid (fun he => by rw [List.take_add_one, List.take_add_one, HC.out, hp, hq, he])
        clear hp hq
        have i1 : (k : Int) < (n : Int) := by omega
        have hcs : (p1 = q1 ∧ p2 = q2 ∧ p3 = q3) ∨ (p1.toList == q1.toList) = false ∨ ((p1.toList == q1.toList) = true ∧ (p2.toList == q2.toList) = false) ∨ ((p1.toList == q1.toList) = true ∧ (p2.toList == q2.toList) = true ∧ (p3 == q3) = false) := by
          by_cases h1 : p1.toList = q1.toList
          · by_cases h2 : p2.toList = q2.toList
            · by_cases h3 : p3 = q3
              · exact .inl ⟨toList_ext h1, toList_ext h2, h3⟩
              · exact .inr (.inr (.inr ⟨by simpa using h1, by simpa using h2, by simpa using h3⟩))
            · exact .inr (.inr (.inl ⟨by simpa using h1, by simpa using h2⟩))
          · exact .inr (.inl (by simpa using h1))
        rcases hcs with ⟨rfl, rfl, rfl⟩ | h1 | ⟨h1, h2⟩ | ⟨h1, h2, h3⟩
        · go_wp2
          go_quiet (fail)
          go_wp2
          go_roundg (n - (k + 1))
          case measure => omega
          case rel => exact ⟨k + 1, _, by omega, by omega, by go_num, by first | rfl | rw [World.drewN_drewN], Lib.hid (ST.out (by first | rfl | trivial))⟩
        all_goals
          have hno : x ≠ y := NE.out (by
            intro e
            simp only [Prod.mk.injEq] at e
            obtain ⟨rfl, rfl, rfl⟩ := e
            simp at *)
          have HNO := Lib.hid hno
          clear hno
          go_wp2
          go_quiet (fail)
          go_wp2
          go_ret
          exact ⟨ret_bool (by rw [← HR.out]; symm; simpa using HNO.out), by first | exact Drawn.of2 _ _ _ | exact Drawn.of3 _ _ _ _⟩
      · obtain rfl : n = k := by omega
        go_wp2
        go_ret
        exact ⟨ret_bool (by rw [← HR.out, decide_eq_true (take_eq_all x y (by rw [Hn.out, Hm.out]) (by rw [Hn.out]; exact HC.out))]), Drawn.of _ _⟩
  · have h1 : ((n : Int) == (m : Int)) = false := by simp; omega
    go_enter Tryz.func7, Tryz.ntmps7
    go_wp2
    go_ret
    exact ⟨ret_bool (by rw [← HR.out]; symm; rw [decide_eq_false_iff_not]; rintro rfl; exact hnm (Hn.out.symm.trans Hm.out)), Drawn.refl _⟩
end Go.Proofs.YtnognphjndpgkaaGreatDoor

/- Numbers by their digits, ten thousand of them: plain. -/
namespace Go.Proofs.YtnognphjndpgkaaGreatDoor

/-- What a row of digits is worth, the lowest first. -/
def valD : List Nat → Nat
  | [] => 0
  | d :: l => d + 10000 * valD l

theorem valD_append (a b : List Nat) : valD (a ++ b) = valD a + 10000 ^ a.length * valD b := by
  induction a with
  | nil => simp [valD]
  | cons d a ih =>
    rw [List.cons_append, valD, valD, ih, List.length_cons, Nat.pow_succ, Nat.mul_add, Nat.mul_comm (10000 ^ a.length) 10000, Nat.mul_assoc]
    omega

theorem valD_lt {l : List Nat} (h : ∀ d ∈ l, d < 10000) : valD l < 10000 ^ l.length := by
  induction l with
  | nil => simp [valD]
  | cons d l ih =>
    have h1 := h d (by simp)
    have h2 := ih fun x hx => h x (by simp [hx])
    rw [valD, List.length_cons, Nat.pow_succ]
    generalize 10000 ^ l.length = y at *
    omega

theorem valD_take (l : List Nat) (k : Nat) (hk : k < l.length) : valD (l.take (k + 1)) = valD (l.take k) + 10000 ^ k * l.getD k 0 := by
  rw [List.take_add_one, valD_append, List.length_take, Nat.min_eq_left (Nat.le_of_lt hk)]
  simp [List.getElem?_eq_getElem hk, valD, List.getD_eq_getElem?_getD]

theorem valD_set (l : List Nat) (j x : Nat) (hj : j < l.length) : valD (l.set j x) + 10000 ^ j * l.getD j 0 = valD l + 10000 ^ j * x := by
  induction l generalizing j with
  | nil => simp at hj
  | cons d l ih =>
    cases j with
    | zero => simp [valD]; omega
    | succ j =>
      have h := ih j (by simpa using hj)
      rw [List.set_cons_succ, valD, valD, List.getD_cons_succ, Nat.pow_succ, Nat.mul_comm (10000 ^ j) 10000, Nat.mul_assoc, Nat.mul_assoc]
      generalize 10000 ^ j * l.getD j 0 = u at *
      generalize 10000 ^ j * x = v at *
      omega

theorem valD_zeros (n : Nat) : valD (List.replicate n 0) = 0 := by
  induction n with
  | zero => rfl
  | succ n ih => rw [List.replicate_succ, valD, ih]

/-- One product into its place, with what it carries. -/
def stepD (o : List Nat) (p x : Nat) : List Nat := (o.set (p + 1) (o.getD (p + 1) 0 + (o.getD p 0 + x) / 10000)).set p ((o.getD p 0 + x) % 10000)

theorem getD_setL (l : List Nat) (i j x : Nat) (hi : i < l.length) : (l.set i x).getD j 0 = if i = j then x else l.getD j 0 := by
  rw [List.getD_eq_getElem?_getD, List.getD_eq_getElem?_getD, List.getElem?_set]
  by_cases h : i = j
  · subst h; simp [hi]
  · simp [h]

theorem stepD_length (o : List Nat) (p x : Nat) : (stepD o p x).length = o.length := by simp [stepD]

theorem stepD_val (o : List Nat) (p x : Nat) (hp : p + 1 < o.length) : valD (stepD o p x) = valD o + 10000 ^ p * x := by
  have h1 := valD_set o (p + 1) (o.getD (p + 1) 0 + (o.getD p 0 + x) / 10000) hp
  have h2 := valD_set (o.set (p + 1) (o.getD (p + 1) 0 + (o.getD p 0 + x) / 10000)) p ((o.getD p 0 + x) % 10000) (by simp; omega)
  rw [getD_setL _ _ _ _ hp, if_neg (by omega)] at h2
  show valD ((o.set (p + 1) _).set p _) = _
  generalize valD ((o.set (p + 1) (o.getD (p + 1) 0 + (o.getD p 0 + x) / 10000)).set p ((o.getD p 0 + x) % 10000)) = A at *
  generalize valD (o.set (p + 1) (o.getD (p + 1) 0 + (o.getD p 0 + x) / 10000)) = B at *
  rw [Nat.pow_succ, Nat.mul_add] at h1
  have e : o.getD p 0 + x = (o.getD p 0 + x) % 10000 + 10000 * ((o.getD p 0 + x) / 10000) := by omega
  have e2 : 10000 ^ p * (o.getD p 0 + x) = 10000 ^ p * ((o.getD p 0 + x) % 10000) + 10000 ^ p * 10000 * ((o.getD p 0 + x) / 10000) := by
    rw [Nat.mul_assoc, ← Nat.mul_add, ← e]
  rw [Nat.mul_add] at e2
  generalize 10000 ^ p * ((o.getD p 0 + x) % 10000) = m at *
  generalize 10000 ^ p * 10000 * ((o.getD p 0 + x) / 10000) = q at *
  generalize 10000 ^ p * 10000 * o.getD (p + 1) 0 = r at *
  generalize 10000 ^ p * o.getD p 0 = s at *
  generalize 10000 ^ p * x = t at *
  omega

theorem stepD_getD (o : List Nat) (p x j : Nat) (hp : p + 1 < o.length) :
    (stepD o p x).getD j 0 = if p = j then (o.getD p 0 + x) % 10000 else if p + 1 = j then o.getD (p + 1) 0 + (o.getD p 0 + x) / 10000 else o.getD j 0 := by
  rw [stepD, getD_setL _ _ _ _ (by simp; omega), getD_setL _ _ _ _ hp]

/-- All cells are at most m. -/
def capD (o : List Nat) (m : Nat) : Prop := ∀ j, o.getD j 0 ≤ m

theorem stepD_cap {o : List Nat} {p x m : Nat} (hp : p + 1 < o.length) (h : capD o m) (hm : m ≤ 1000000000000) (hx : x ≤ 100000000) : capD (stepD o p x) (m + 200000000) := by
  intro j
  rw [stepD_getD o p x j hp]
  have h0 := h j
  have h1 := h p
  have h2 := h (p + 1)
  split
  · omega
  · split <;> omega

/-- Digits, each one, the last not 0. -/
def Can (l : List Nat) : Prop := (∀ j, l.getD j 0 < 10000) ∧ ∀ j, j + 1 = l.length → l.getD j 0 ≠ 0

theorem Can.lt {l : List Nat} (h : Can l) : ∀ d ∈ l, d < 10000 := by
  intro d hd
  obtain ⟨i, hi, rfl⟩ := List.getElem_of_mem hd
  have := h.1 i
  rwa [List.getD_eq_getElem?_getD, List.getElem?_eq_getElem hi] at this

theorem valD_ge {l : List Nat} (j : Nat) (hj : j < l.length) : 10000 ^ j * l.getD j 0 ≤ valD l := by
  have h := valD_take l j hj
  have e : valD l = valD (l.take (j + 1)) + 10000 ^ (j + 1) * valD (l.drop (j + 1)) := by
    have := valD_append (l.take (j + 1)) (l.drop (j + 1))
    rw [List.take_append_drop, List.length_take, Nat.min_eq_left hj] at this
    exact this
  omega

theorem Can.len {l : List Nat} (h : Can l) {n : Nat} (hv : valD l < 10000 ^ n) : l.length ≤ n := by
  by_cases h0 : l.length ≤ n
  · exact h0
  · exfalso
    have h1 := h.2 (l.length - 1) (by omega)
    have h2 := valD_ge (l := l) (l.length - 1) (by omega)
    have h3 : 10000 ^ n ≤ 10000 ^ (l.length - 1) := Nat.pow_le_pow_right (by decide) (by omega)
    have h4 : 10000 ^ (l.length - 1) * 1 ≤ 10000 ^ (l.length - 1) * l.getD (l.length - 1) 0 := Nat.mul_le_mul_left _ (by omega)
    omega

theorem Can.ge {l : List Nat} (h : Can l) (h0 : 0 < l.length) : 10000 ^ (l.length - 1) ≤ valD l := by
  have h1 := h.2 (l.length - 1) (by omega)
  have h2 := valD_ge (l := l) (l.length - 1) (by omega)
  have h4 : 10000 ^ (l.length - 1) * 1 ≤ 10000 ^ (l.length - 1) * l.getD (l.length - 1) 0 := Nat.mul_le_mul_left _ (by omega)
  omega

/-- Is the first of two greater, by their first k digits? -/
def gtD (a b : List Nat) : Nat → Bool
  | 0 => false
  | k + 1 => if a.getD k 0 = b.getD k 0 then gtD a b k else decide (b.getD k 0 < a.getD k 0)

theorem gtD_iff (a b : List Nat) (ha : ∀ j, a.getD j 0 < 10000) (hb : ∀ j, b.getD j 0 < 10000) (k : Nat) (hka : k ≤ a.length) (hkb : k ≤ b.length) : gtD a b k = decide (valD (b.take k) < valD (a.take k)) := by
  induction k with
  | zero => simp [gtD]
  | succ k ih =>
    have h1 : valD (a.take k) < 10000 ^ k := by
      have := valD_lt (l := a.take k) (fun d hd => by
        obtain ⟨i, hi, rfl⟩ := List.getElem_of_mem (List.mem_of_mem_take hd)
        have := ha i
        rwa [List.getD_eq_getElem?_getD, List.getElem?_eq_getElem hi] at this)
      rwa [List.length_take, Nat.min_eq_left (by omega)] at this
    have h2 : valD (b.take k) < 10000 ^ k := by
      have := valD_lt (l := b.take k) (fun d hd => by
        obtain ⟨i, hi, rfl⟩ := List.getElem_of_mem (List.mem_of_mem_take hd)
        have := hb i
        rwa [List.getD_eq_getElem?_getD, List.getElem?_eq_getElem hi] at this)
      rwa [List.length_take, Nat.min_eq_left (by omega)] at this
    rw [gtD, valD_take a k (by omega), valD_take b k (by omega)]
    by_cases e : a.getD k 0 = b.getD k 0
    · rw [if_pos e, ih (by omega) (by omega), e]
      simp
    · rw [if_neg e]
      by_cases hlt : b.getD k 0 < a.getD k 0
      · have h3 : 10000 ^ k * (b.getD k 0 + 1) ≤ 10000 ^ k * a.getD k 0 := Nat.mul_le_mul_left _ hlt
        rw [Nat.mul_add] at h3
        generalize 10000 ^ k * a.getD k 0 = x at *
        generalize 10000 ^ k * b.getD k 0 = y at *
        generalize 10000 ^ k = z at *
        rw [decide_eq_true hlt, decide_eq_true (by omega)]
      · have h3 : 10000 ^ k * (a.getD k 0 + 1) ≤ 10000 ^ k * b.getD k 0 := Nat.mul_le_mul_left _ (by omega)
        rw [Nat.mul_add] at h3
        generalize 10000 ^ k * a.getD k 0 = x at *
        generalize 10000 ^ k * b.getD k 0 = y at *
        generalize 10000 ^ k = z at *
        rw [decide_eq_false hlt, decide_eq_false (by omega)]

/-- As errataref03.more tells it. -/
def moreD (a b : List Nat) : Bool := if a.length = b.length then gtD a b a.length else decide (b.length < a.length)

theorem moreD_iff {a b : List Nat} (ha : Can a) (hb : Can b) : moreD a b = decide (valD b < valD a) := by
  unfold moreD
  by_cases h : a.length = b.length
  · rw [if_pos h, gtD_iff a b ha.1 hb.1 a.length (Nat.le_refl _) (by omega), List.take_of_length_le (by omega), List.take_of_length_le (by omega)]
  · rw [if_neg h]
    have h1 := valD_lt ha.lt
    have h2 := valD_lt hb.lt
    by_cases hlt : b.length < a.length
    · have h3 := ha.ge (by omega)
      have h4 : 10000 ^ b.length ≤ 10000 ^ (a.length - 1) := Nat.pow_le_pow_right (by decide) (by omega)
      rw [decide_eq_true hlt, decide_eq_true (by omega)]
    · have h3 := hb.ge (by omega)
      have h4 : 10000 ^ a.length ≤ 10000 ^ (b.length - 1) := Nat.pow_le_pow_right (by decide) (by omega)
      rw [decide_eq_false hlt, decide_eq_false (by omega)]
end Go.Proofs.YtnognphjndpgkaaGreatDoor

/- Slices of numbers: a value that reads as a list; a row of the call's own. -/
namespace Go.Proofs.YtnognphjndpgkaaGreatDoor
open Go.RowKit

theorem addr_addL (b o j : Nat) : (⟨b, o, none⟩ : Addr).add j = ⟨b, o + j, none⟩ := by
  unfold Addr.add
  by_cases h : j = 0
  · subst h; rfl
  · simp [h]
/-- An append whose run is known, guarded or not. -/
theorem wpList_append_runL {P : Program} {w : World} {ops : Array Oper} {rest : List Oper} {o : Oper} {a : Act} {Q : Exit → Act → World → Prop} (s x : Operand) (t : TypeId) (v u v' : Value) (w' : World)
    (hrun : (Builtin.append_ #[t, t] o.type #[v, u]).run P w = .ok v' w') (hw : Region.wanted o (yielded ops a.tmps) = true)
    (ho : o.op = .call { callee := .builtin .append, args := #[s, x], argTypes := #[t, t] }) (hs : a.eval s = v) (hx : a.eval x = u)
    (h : wpList P ops Q rest (a.put o.dst v') w') : wpList P ops Q (o :: rest) a w := by
  refine wpList_step fun K hK => ?_
  rw [if_pos hw]
  unfold Oper.wp execOp
  simp only [ho, resolve, invoke, builtin, Sem.run_bind, Sem.run_pure, Result.andThen_ok, List.map_toArray, List.map_cons, List.map_nil, hs, hx, hrun]
  exact hK _ _ h
theorem grown_noneL {w w' : World} (h : Below w.heap.size w w') : w.grownBy w' none :=
  ⟨h.os, h.tape, h.output, h.size, fun k hk _ => h.block k hk⟩

theorem own_belowL {w w' : World} {base : Nat} {e : TypeId} {size n : Nat} {v : Value} {xs : List Value} (h : w.ownsRow base e size v n xs) (hb : Below w.heap.size w w') : w'.ownsRow base e size v n xs :=
  h.kept (grown_noneL hb) (by cases hv : v.ownBlock with
    | none => exact .inl rfl
    | some g => exact .inr (by simp))
theorem own_blockL {w : World} {base : Nat} {e : TypeId} {size n : Nat} {v : Value} {xs : List Value} (h : w.ownsRow base e size v n xs) : ∀ g, v.ownBlock = some g → base ≤ g := by
  intro g hg
  rcases h.2 with ⟨rfl, _⟩ | ⟨g', cap, cur, rfl, hb, _⟩
  · simp [Value.ownBlock] at hg
  · obtain rfl : g' = g := by simpa [Value.ownBlock] using hg
    exact hb
/-- The slice value v reads as the list l of numbers. -/
def NRuns (w : World) (v : Value) (l : List Nat) : Prop :=
  ∃ A c, v = .slice A l.length c ∧ l.length ≤ c ∧ (c ≤ maxLen ∧ (A = none → c = 0)) ∧
    (0 < l.length → ∃ b o, A = some ⟨b, o, none⟩ ∧ b < w.heap.size ∧ ∀ j, j < l.length → w.cell? ⟨b, o + j, none⟩ = some (.int .i64 ((l.getD j 0 : Nat) : Int)))

theorem NRuns.below {w w' : World} {v : Value} {l : List Nat} (h : NRuns w v l) (hb : Below w.heap.size w w') : NRuns w' v l := by
  obtain ⟨A, c, e, hc, hm, hx⟩ := h
  refine ⟨A, c, e, hc, hm, fun h0 => ?_⟩
  obtain ⟨b, o, eA, hlt, hcell⟩ := hx h0
  exact ⟨b, o, eA, Nat.lt_of_lt_of_le hlt hb.size, fun j hj => (hb.cell (p := ⟨b, o + j, none⟩) hlt).trans (hcell j hj)⟩

theorem NRuns.of_own {w : World} {base : Nat} {e : TypeId} {v : Value} {n : Nat} {l : List Nat} (h : w.ownsRow base e 1 v n (l.map fun x : Nat => Value.int .i64 (x : Int))) : NRuns w v l := by
  obtain ⟨hlen, hv⟩ := h
  have hn : l.length = n := by simpa using hlen
  subst hn
  rcases hv with ⟨rfl, h0⟩ | ⟨g, cap, cur, rfl, _, hg, hle, hcap, hsz, htk⟩
  · exact ⟨none, 0, by rw [h0], by omega, by simp [maxLen], fun hp => absurd hp (by omega)⟩
  · refine ⟨_, cap, rfl, hle, ⟨hcap, fun h => by cases h⟩, fun _ => ⟨g, 0, rfl, (Array.getElem?_eq_some_iff.1 hg).1, fun j hj => ?_⟩⟩
    rw [cell_of_row w g (0 + j) cur e (0, 0) hg]
    have h2 : (cur.toList.take (l.length * 1))[j]? = some (Value.int .i64 ((l.getD j 0 : Nat) : Int)) := by
      rw [htk]; simp [List.getD_eq_getElem?_getD, hj]
    rw [List.getElem?_take] at h2
    rw [if_pos (by omega)] at h2
    simpa using h2

theorem infoIL : (Tryz.prog.info? 3).map (fun i => (i.zero, i.size, i.bytes)) = some (some (.int .i64 0), 1, 8) := by kernel_rfl
theorem nruns_lit (w : World) (d : Nat) : NRuns (w.alloc (.cells #[.int .i64 (d : Int)] 3)) (.slice (some ⟨w.heap.size, 0, none⟩) 1 1) [d] :=
  ⟨_, 1, rfl, by simp, ⟨by simp [maxLen], fun h => by cases h⟩, fun _ => ⟨w.heap.size, 0, rfl, by simp, fun j hj => by
    have : j = 0 := by simpa using hj
    subst this
    simp⟩⟩

/-- append(v, d) to a row of the call's own. -/
theorem append_oneL (w : World) (base : Nat) (v : Value) (n : Nat) (xs : List Value) (hown : w.ownsRow base 3 1 v n xs) (d : Nat) (hbase : base ≤ w.heap.size) (hlen : (n + 1) * 8 ≤ 140737488355328) :
    ∃ v' w', (Builtin.append_ #[108, 108] 108 #[v, .slice (some ⟨w.heap.size, 0, none⟩) 1 1]).run Tryz.prog (w.alloc (.cells #[.int .i64 (d : Int)] 3)) = .ok v' w' ∧ w'.ownsRow base 3 1 v' (n + 1) (xs ++ [.int .i64 (d : Int)]) ∧ Below base w w' := by
  obtain ⟨i0, hi, hz0, hz1, hz2⟩ := info_parts infoIL
  have hba : Below w.heap.size w (w.alloc (.cells #[.int .i64 (d : Int)] 3)) := (Below.refl _ _).alloc (Nat.le_refl _) _
  obtain ⟨v', w', hrun, h2, h3, _, h5⟩ := run_append_own_at (P := Tryz.prog) (w.alloc (.cells #[.int .i64 (d : Int)] 3)) base 108 108 3 i0 _ 1 8 Tryz.underlying108 hi hz0 hz1 hz2 rfl (by decide) v n xs (own_belowL hown hba) ⟨w.heap.size, 0, none⟩ 1 1 [.int .i64 (d : Int)] (by simp)
    (fun j u hj => by
      cases j with
      | zero => rw [addr_addL]; simpa using hj
      | succ j => simp at hj)
    (fun u hu => by simp at hu; subst hu; rfl) (by unfold maxLen; omega) hlen (by simp; omega)
  exact ⟨v', w', hrun, h2, (hba.mono hbase).grown h3 (by simp; omega) (own_blockL hown)⟩
end Go.Proofs.YtnognphjndpgkaaGreatDoor

