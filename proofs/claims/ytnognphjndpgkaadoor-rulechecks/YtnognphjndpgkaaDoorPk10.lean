/- Texts that several proofs of this seat share, one behind the other: QMake VLaw RRef Frame GArg. -/
import Derived.Test.YtnognphjndpgkaaDoorPk8
import Derived.Test.YtnognphjndpgkaaDoorPk6
import Derived.Test.YtnognphjndpgkaaDoorPk9
import Derived.Test.YtnognphjndpgkaaDoorPk7
import Derived.Test.YtnognphjndpgkaaDoorPk4
import Derived.Test.YtnognphjndpgkaaDoorPk2
import Derived.Test.YtnognphjndpgkaaDoorCards
import Derived.Test.YtnognphjndpgkaaDoorTie
import Derived.OpenShut
import Derived.Deep.DeepHandedRow
import Derived.Lib.LaidTab
import Derived.Lib.LaidU8T
import Derived.Carry
import Derived.Test.YtnognphjndpgkaaDoorRows
import Derived.Lib.SmallJoins
import Derived.SliceStrings
import Derived.Deep.Slices
import Derived.ChangeArms
/- rule.Make: the rules of those blocks of a table that were seen often enough. -/
namespace Go.Proofs.YtnognphjndpgkaaDoor
open Go.RowKit Go.Shelf
set_option linter.unusedSimpArgs false
set_option linter.unusedVariables false

/-- Make's error, and its rules. -/
def mkE (l : List Blk) (n : Int) : Int := if chkT l = 0 then (if n < 1 ∨ 1073741824 < n then 2 else 0) else chkT l
def mkS (l : List Blk) (n : Int) : List Blk := if mkE l n = 0 then mkR l n else []
/-- The rules of the first blocks. -/
def mkK (l : List Blk) (n : Int) (k : Nat) : List Blk := ((l.take k).filter (fun b => decide (n ≤ b.2.2))).map (ruleB l)
theorem mkK_zero (l : List Blk) (n : Int) : mkK l n 0 = [] := by simp [mkK]
theorem mkK_all (l : List Blk) (n : Int) : mkK l n l.length = mkR l n := by rw [mkK, List.take_length, mkR]
theorem mkK_next {l : List Blk} (n : Int) (k : Nat) (x : Blk) (h : l[k]? = some x) : (x.2.2 < n → mkK l n (k + 1) = mkK l n k) ∧ (¬ x.2.2 < n → mkK l n (k + 1) = mkK l n k ++ [ruleB l x]) := by
  unfold mkK
  rw [List.take_add_one, h, List.filter_append, List.map_append]
  refine ⟨fun hx => ?_, fun hx => ?_⟩
  · have : decide (n ≤ x.2.2) = false := decide_eq_false (by omega)
    simp [this]
  · have : decide (n ≤ x.2.2) = true := decide_eq_true (by omega)
    simp [this]
theorem mkK_len (l : List Blk) (n : Int) (k : Nat) : (mkK l n k).length ≤ k := by
  unfold mkK
  rw [List.length_map]
  refine Nat.le_trans (List.length_filter_le _ _) ?_
  rw [List.length_take]; omega
theorem szL_mk {l : List Blk} (h : szL l) (n : Int) : szL (mkR l n) := fun r hr => by
  obtain ⟨b, hb, _, rfl⟩ := mk_mem.1 hr
  exact h b hb

set_option maxRecDepth 100000 in
set_option maxHeartbeats 8000000 in
theorem rmake_any (u : Value) (l : List Blk) (least : Int) (w : World) (hO : Okw w) (hu : BRuns w u l) (hl : l.length ≤ 2000000) (hz : szL l) :
    Calls Tryd.prog 21 #[u, .int .i64 least] w fun e w' => ∃ v, e = .returned (.tuple #[v, .int .i64 (mkE l least)]) ∧ BRuns w' v (mkS l least) ∧ Below w.heap.size w w' := by
  have ct := total_any u l w hO hu hl hz
  obtain ⟨A, c, e⟩ := hu.slice
  subst e
  have hE : mkE l least = if chkT l = 0 then (if least < 1 ∨ 1073741824 < least then 2 else 0) else chkT l := rfl
  have hS : mkS l least = if mkE l least = 0 then mkR l least else [] := rfl
  have hF : chkT l = 0 → totS l = sumN l ∧ posN l ∧ l.length ≤ 4096 ∧ sumN l ≤ 1073741824 := fun h => by
    obtain ⟨h1, _, h3, h4⟩ := chkT_facts h
    exact ⟨by rw [totS, if_pos h], posN_of h1, h3, h4⟩
  have HZ := Lib.hid (szL_mk hz least)
  obtain ⟨ea, hea⟩ : ∃ z, chkT l = z := ⟨_, rfl⟩
  obtain ⟨er, her⟩ : ∃ z, mkE l least = z := ⟨_, rfl⟩
  obtain ⟨Y, hY⟩ : ∃ z, mkS l least = z := ⟨_, rfl⟩
  obtain ⟨T, hT⟩ : ∃ z, totS l = z := ⟨_, rfl⟩
  rw [her] at hE hS ⊢
  rw [hY] at hS ⊢
  rw [hea] at hE ct hF
  rw [hT] at ct hF
  obtain ⟨n, hn⟩ : ∃ n, l.length = n := ⟨_, rfl⟩
  rw [hn] at ct hl hu hF ⊢
  have CT := Lib.hid ct; have HN := Lib.hid hn; have HU := Lib.hid hu; have HE := Lib.hid hE; have HS := Lib.hid hS; have HF := Lib.hid hF
  clear ct hn hu hO hz hE hS hF hea her hY hT
  go_enter Tryd.func21, Tryd.ntmps21
  go_wp2_with fail
  refine CT.out.mono ?_
  rintro e w1 ⟨rfl, b1⟩
  have U1 := Lib.hid (HU.out.below b1)
  have B1 := Lib.hid b1
  clear b1 CT
  by_cases h0 : ea = 0
  · subst h0
    obtain ⟨t1, t2, t3, t4⟩ := HF.out (by first | rfl | trivial)
    by_cases h1 : least < 1
    · have hEr : er = 2 := by rw [HE.out, if_pos (by first | rfl | trivial), if_pos (.inl h1)]
      subst hEr
      have hYs : Hid (Y = []) := Lib.hid (by rw [HS.out]; simp)
      clear t1 t2
      go_wp2
      go_ret2
      exact ⟨_, rfl, by rw [hYs.out]; exact GRuns.nil_ _ _ _, B1.out⟩
    by_cases h2 : 1073741824 < least
    · have hEr : er = 2 := by rw [HE.out, if_pos (by first | rfl | trivial), if_pos (.inr h2)]
      subst hEr
      have hYs : Hid (Y = []) := Lib.hid (by rw [HS.out]; simp)
      clear t1 t2
      go_wp2
      go_ret2
      exact ⟨_, rfl, by rw [hYs.out]; exact GRuns.nil_ _ _ _, B1.out⟩
    have hEr : er = 0 := by rw [HE.out, if_pos (by first | rfl | trivial), if_neg (by omega)]
    subst hEr
    have hYs : Hid (Y = mkR l least) := Lib.hid (by rw [HS.out]; simp)
    have hpos := sumN_nonneg (l := l) t2
    obtain ⟨t, ht⟩ : ∃ t : Nat, T = (t : Int) := ⟨T.toNat, by omega⟩
    subst ht
    have HM := Lib.hid (fun b hb => mem_sumN t2 b hb)
    have htn : (sumN l).toNat = t := by omega
    have ht1 : t ≤ 1073741824 := by omega
    have HT1 := Lib.hid t1; have HT2 := Lib.hid t2; have HTN := Lib.hid htn
    clear t1 t2 t4 hpos htn HE HS HF
    have HG : Hid (∀ (N3 : Nat) (a b : ByteArray), ruleB l (a, b, (N3 : Int)) = (a, b, ((costN t n N3 : Nat) : Int))) := Lib.hid (fun N3 a b => by
      show (a, b, ((costK (sumN l).toNat l.length (N3 : Int).toNat : Nat) : Int)) = _
      rw [HTN.out, HN.out, Int.toNat_natCast]; rfl)
    have CO := Lib.hid cost_ok
    go_wp2
    go_loopw [8, 29] (fun s8 s29 wr => ∃ k : Nat, k ≤ n ∧ s29 = .int .i64 k ∧ Hid (wr.ownsRow w.heap.size 24 3 s8 (mkK l least k).length (gCells blkCell (mkK l least k))) ∧ Hid (Below w.heap.size w wr)) (fun _ s29 _ => n - (RowKit.intOf s29).toNat)
    case atStart => exact ⟨0, Nat.zero_le _, rfl, Lib.hid (by rw [mkK_zero]; exact World.ownsRow_nil _ _ _ _), B1⟩
    case round =>
      obtain ⟨k, hkn, rfl, HO, BW⟩ := hrel
      by_cases hk : k < n
      · have k1 : (k : Int) < (n : Int) := by omega
        obtain ⟨⟨p1, p2, p3⟩, hp⟩ : ∃ p, l[k]? = some p := ⟨_, List.getElem?_eq_getElem (by rw [HN.out]; exact hk)⟩
        obtain ⟨b, o, rfl, _, hc⟩ := (HU.out.below BW.out).cells HN.out (by omega)
        obtain ⟨g0, g1, g2⟩ := blk_cells hc hp
        simp only at g0 g1 g2
        have hm := HM.out _ (List.mem_of_getElem? hp)
        have hps := HT2.out _ (List.mem_of_getElem? hp)
        have hnx := mkK_next least k _ hp
        simp only at hm hps hnx
        have e1 := HT1.out
        obtain ⟨N3, hN3⟩ : ∃ N3 : Nat, p3 = (N3 : Int) := ⟨p3.toNat, by omega⟩
        subst hN3
        have hNt : N3 ≤ t := by omega
        rw [HG.out] at hnx
        have hln := mkK_len l least k
        obtain ⟨M, hM⟩ : ∃ z, mkK l least k = z := ⟨_, rfl⟩
        rw [hM] at hnx hln HO
        obtain ⟨m, hmm⟩ : ∃ z, M.length = z := ⟨_, rfl⟩
        rw [hmm] at hln HO
        have GR := GRuns.of_own rl_ln hmm HO.out
        obtain ⟨A3, c3, e3⟩ := GR.slice
        rw [hmm] at e3
        subst e3
        have HNX := Lib.hid hnx; have HMM := Lib.hid hmm
        have hal := blw_one wr (.cells #[.string p1, .string p2, .int .i64 (N3 : Int)] 40)
        obtain ⟨x0, x1, x2⟩ := cells3_new wr (.string p1) (.string p2) (.int .i64 (N3 : Int)) 40
        have hltb : wr.heap.size < (wr.alloc (.cells #[.string p1, .string p2, .int .i64 (N3 : Int)] 40)).heap.size := by simp
        obtain ⟨wa, hwa⟩ : ∃ z, wr.alloc (.cells #[.string p1, .string p2, .int .i64 (N3 : Int)] 40) = z := ⟨_, rfl⟩
        rw [hwa] at hal x0 x1 x2 hltb
        obtain ⟨bx, hbx⟩ : ∃ z, wr.heap.size = z := ⟨_, rfl⟩
        rw [hbx] at x0 x1 x2 hltb
        have BA : Hid (Below w.heap.size w wa) := Lib.hid (BW.out.trans (hal.mono BW.out.size))
        have OA : Hid (wa.ownsRow w.heap.size 24 3 (.slice A3 m c3) m (gCells blkCell M)) := Lib.hid (own_below HO.out hal)
        have HWA := Lib.hid hwa; have HBX := Lib.hid hbx
        clear hc hp hm hps hnx hM hmm GR hal hwa hbx HO e1
        by_cases hlt : (N3 : Int) < least
        · have hnew : Hid (mkK l least (k + 1) = M) := Lib.hid (HNX.out.1 hlt)
          clear HNX
          go_wp2
          rw [HWA.out]
          exact ⟨⟨k + 1, by omega, by go_num, Lib.hid (by rw [hnew.out, HMM.out]; exact OA.out), BA⟩, by simp [RowKit.intOf]; omega⟩
        · have hnew : Hid (mkK l least (k + 1) = M ++ [(p1, p2, ((costN t n N3 : Nat) : Int))]) := Lib.hid (HNX.out.2 hlt)
          have cc := CO.out t n N3 ht1 (by omega) t3 hNt wa
          obtain ⟨cs, hcs⟩ : ∃ z, costN t n N3 = z := ⟨_, rfl⟩
          rw [hcs] at cc hnew
          have C := Lib.hid cc
          clear HNX cc hcs
          go_wp2_with fail
          rw [HWA.out, HBX.out]
          refine C.out.mono ?_
          rintro e w5 ⟨rfl, b5⟩
          have y0 := (b5.cell (p := ⟨bx, 0, none⟩) hltb).trans x0
          have y1 := (b5.cell (p := ⟨bx, 1, none⟩) hltb).trans x1
          have B5 : Below w.heap.size w w5 := BA.out.trans (b5.mono BA.out.size)
          have O5 := own_below OA.out b5
          obtain ⟨v', w6, hrun, o6, g6, at6⟩ := append_one (P := Tryd.prog) rl_ln rl_one info_rule rfl (by decide) (by decide) Tryd.underlying22 w5 w.heap.size _ m _ O5 (p1, p2, ((cs : Nat) : Int)) B5.size (by omega)
          have B6 : Hid (Below w.heap.size w w6) := Lib.hid ((B5.alloc B5.size _).grown g6 (by simp; exact Nat.le_succ_of_le B5.size) (fun k hk => (O5.lt k hk).1))
          have O6 : Hid (w6.ownsRow w.heap.size 24 3 v' (mkK l least (k + 1)).length (gCells blkCell (mkK l least (k + 1)))) := Lib.hid (by
            rw [hnew.out, List.length_append, HMM.out, gCells_append]
            simpa [gCells] using o6)
          have hrun' : (Builtin.append_ #[22, 22] 22 #[.slice A3 m c3, .slice (some ⟨w5.heap.size, 0, none⟩) 1 1]).run Tryd.prog (w5.alloc (.cells #[.string p1, .string p2, .int .i64 ((cs : Nat) : Int)] 24)) = .ok v' w6 := hrun
          have HRUN := Lib.hid hrun'
          clear b5 x0 x1 x2 g0 g1 g2 B5 O5 hrun hrun' o6 g6 at6 hnew
          go_wp2_with (at_builtin; refine wpList_append_run (.tmp 46) (.tmp 53) 22 _ _ _ _ HRUN.out rfl rfl rfl rfl ?_)
          exact ⟨⟨k + 1, by omega, by go_num, O6, B6⟩, by simp [RowKit.intOf]; omega⟩
      · obtain rfl : k = n := by omega
        have hall : mkK l least k = mkR l least := by rw [← HN.out]; exact mkK_all l least
        rw [hall] at HO
        obtain ⟨M, hM⟩ : ∃ z, mkR l least = z := ⟨_, rfl⟩
        rw [hM] at HO hYs HZ
        have hln : M.length ≤ k := by rw [← hM, ← hall]; exact mkK_len l least k
        have GR := GRuns.of_own rl_ln rfl HO.out
        obtain ⟨A3, c3, e3⟩ := GR.slice
        subst e3
        have cr := renewed_any _ M wr GR (by omega) HZ.out
        obtain ⟨m, hmm⟩ : ∃ z, M.length = z := ⟨_, rfl⟩
        rw [hmm] at cr ⊢
        have CR := Lib.hid cr; have HMM := Lib.hid hmm
        clear cr hmm GR HO hall hM hln
        go_wp2_with fail
        refine CR.out.mono ?_
        rintro e w5 ⟨v5, rfl, o5, b5⟩
        have B5 := Lib.hid (BW.out.trans (b5.mono BW.out.size))
        have R5 := Lib.hid (GRuns.of_own rl_ln HMM.out o5)
        clear o5 b5
        go_wp2
        go_ret2
        exact ⟨v5, rfl, by rw [hYs.out]; exact R5.out, B5.out⟩
  · have h0' : (ea == 0) = false := by simpa using h0
    have hEr : er = ea := by rw [HE.out, if_neg h0]
    subst hEr
    have hYs : Hid (Y = []) := Lib.hid (by rw [HS.out, if_neg h0])
    go_wp2
    go_ret2
    exact ⟨_, rfl, by rw [hYs.out]; exact GRuns.nil_ _ _ _, B1.out⟩
end Go.Proofs.YtnognphjndpgkaaDoor

/- great, alive of layer 7: which rules are looked at; the document's example. -/
namespace Go.Proofs.YtnognphjndpgkaaDoor
open Go.RowKit Go.Shelf
set_option linter.unusedSimpArgs false
set_option linter.unusedVariables false

/-- Whether rules are more than are looked at. -/
def grB (l : List Blk) : Bool := decide (500 < l.length) || decide (8000 < smT l)
theorem grB_no {l : List Blk} (h : grB l = false) : notGreat l := by
  unfold grB at h
  rw [Bool.or_eq_false_iff] at h
  have h1 := of_decide_eq_false h.1
  have h2 := of_decide_eq_false h.2
  exact ⟨by omega, fun b hb => by have := smT_mem l b hb; omega⟩
theorem lit_rules (D : World) (L : List Blk) (h : L.length ≤ 1000) : GRuns blkCell 3 (D.alloc (.cells (gCells blkCell L).toArray 24)) (.slice (some ⟨D.heap.size, 0, none⟩) L.length L.length) L := by
  refine GRuns.of_own (base := 0) (n := L.length) rl_ln rfl ⟨gCells_len rl_ln L, .inr ⟨D.heap.size, L.length, (gCells blkCell L).toArray, rfl, Nat.zero_le _, heap_alloc_new D _, Nat.le_refl _, by unfold maxLen; omega, ?_, ?_⟩⟩
  · rw [List.size_toArray, gCells_len rl_ln]
  · show (gCells blkCell L).take (L.length * 3) = _
    rw [List.take_of_length_le (by rw [gCells_len rl_ln]; exact Nat.le_refl _)]
set_option maxRecDepth 100000 in
set_option maxHeartbeats 4000000 in
theorem great7_det (u : Value) (l : List Blk) (w : World) (hu : BRuns w u l) (hz : szM l) :
    Calls Tryd.prog 9 #[u] w fun e w' => e = .returned (.bool (grB l)) ∧ Below w.heap.size w w' := by
  have hgr : grB l = (decide (500 < l.length) || decide (8000 < smT l)) := rfl
  obtain ⟨res, hres⟩ : ∃ z, grB l = z := ⟨_, rfl⟩
  rw [hres] at hgr ⊢
  have HGR := Lib.hid hgr; clear hgr hres
  have hcm : l.length ≤ maxLen := by
    obtain ⟨_, c, _, h1, h2, _⟩ := hu
    exact Nat.le_trans h1 h2.1
  obtain ⟨A, c, e⟩ := hu.slice
  subst e
  have HU := Lib.hid hu; clear hu
  obtain ⟨n, hn⟩ : ∃ n, l.length = n := ⟨_, rfl⟩
  rw [hn] at HU hcm ⊢
  have HN := Lib.hid hn
  unfold maxLen at hcm
  by_cases hbig : 500 < n
  · clear hz hn
    go_enter Tryd.func9, Tryd.ntmps9
    go_wp2
    go_loopw [3, 8] (fun s3 s8 wr => ∃ (k : Nat) (s : Int), k ≤ n ∧ s8 = .int .i64 k ∧ s3 = .int .i64 s ∧ Hid (Below w.heap.size w wr)) (fun _ s8 _ => n - (RowKit.intOf s8).toNat)
    case atStart => exact ⟨0, 0, Nat.zero_le _, rfl, rfl, Lib.hid (Below.refl _ _)⟩
    case round =>
      obtain ⟨k, s, hkn, rfl, rfl, BW⟩ := hrel
      by_cases hk : k < n
      · have k1 : (k : Int) < (n : Int) := by omega
        obtain ⟨⟨p1, p2, p3⟩, hp⟩ : ∃ p, l[k]? = some p := ⟨_, List.getElem?_eq_getElem (by rw [HN.out]; exact hk)⟩
        obtain ⟨b, o, rfl, _, hc⟩ := (HU.out.below BW.out).cells HN.out (by omega)
        obtain ⟨g0, g1, g2⟩ := blk_cells hc hp
        simp only at g0 g1 g2
        have hal : Hid (Below w.heap.size w (wr.alloc (.cells #[.string p1, .string p2, .int .i64 p3] 24))) := Lib.hid (BW.out.alloc BW.out.size _)
        clear hc hp
        go_wp2
        exact ⟨⟨k + 1, _, by omega, by go_num, rfl, hal⟩, by simp [RowKit.intOf]; omega⟩
      · obtain rfl : k = n := by omega
        have h5 : (500 : Int) < (k : Int) := by omega
        have hr : Hid (res = true) := Lib.hid (by rw [HGR.out, HN.out, decide_eq_true hbig]; rfl)
        go_wp2
        go_ret
        exact ⟨by rw [hr.out]; rfl, BW.out⟩
  · have hb' := smT_le (l := l) (c := 140737488355328) hz
    obtain ⟨sm, hsm⟩ : ∃ f, f = fun k => smT (l.take k) := ⟨_, rfl⟩
    have hst : ∀ k x, l[k]? = some x → sm (k + 1) = sm k + (x.1.size + x.2.1.size) := fun k x hx => by rw [hsm]; exact smT_take k x hx
    have hbd : ∀ k, sm k ≤ k * (2 * 140737488355328) := fun k => by rw [hsm]; exact hb' k
    have h0 : sm 0 = 0 := by rw [hsm]; simp [smT]
    have hfin : smT l = sm n := by
      rw [hsm]
      simp only
      rw [List.take_of_length_le (by rw [hn]; exact Nat.le_refl _)]
    have ST := Lib.hid hst; have BD := Lib.hid hbd; have HF := Lib.hid hfin; have HZ := Lib.hid hz
    clear hst hbd hfin hsm hb' hz hn
    go_enter Tryd.func9, Tryd.ntmps9
    go_wp2
    go_loopw [3, 8] (fun s3 s8 wr => ∃ k : Nat, k ≤ n ∧ s8 = .int .i64 k ∧ s3 = .int .i64 (sm k : Nat) ∧ Hid (Below w.heap.size w wr)) (fun _ s8 _ => n - (RowKit.intOf s8).toNat)
    case atStart => exact ⟨0, Nat.zero_le _, rfl, by rw [h0]; rfl, Lib.hid (Below.refl _ _)⟩
    case round =>
      obtain ⟨k, hkn, rfl, rfl, BW⟩ := hrel
      have bk := BD.out k
      obtain ⟨s, es⟩ : ∃ s, sm k = s := ⟨_, rfl⟩
      rw [es] at bk ⊢
      have HES := Lib.hid es; clear es
      by_cases hk : k < n
      · have k1 : (k : Int) < (n : Int) := by omega
        obtain ⟨⟨p1, p2, p3⟩, hp⟩ : ∃ p, l[k]? = some p := ⟨_, List.getElem?_eq_getElem (by rw [HN.out]; exact hk)⟩
        obtain ⟨b, o, rfl, _, hc⟩ := (HU.out.below BW.out).cells HN.out (by omega)
        obtain ⟨g0, g1, g2⟩ := blk_cells hc hp
        simp only at g0 g1 g2
        have hs1 := ST.out k _ hp
        have hz1 := HZ.out _ (List.mem_of_getElem? hp)
        simp only at hs1 hz1
        rw [HES.out] at hs1
        have HS1 := Lib.hid hs1
        have w1 : IntKind.i64.wrap ((p1.size : Int) + (p2.size : Int)) = (p1.size : Int) + (p2.size : Int) := by rw [IntKind.wrap_i64]; omega
        have w2 : IntKind.i64.wrap ((s : Int) + ((p1.size : Int) + (p2.size : Int))) = (s : Int) + ((p1.size : Int) + (p2.size : Int)) := by rw [IntKind.wrap_i64]; omega
        have hal : Hid (Below w.heap.size w (wr.alloc (.cells #[.string p1, .string p2, .int .i64 p3] 24))) := Lib.hid (BW.out.alloc BW.out.size _)
        clear hc hp hs1
        go_wp2
        exact ⟨⟨k + 1, by omega, by go_num, by rw [HS1.out]; simp, hal⟩, by simp [RowKit.intOf]; omega⟩
      · obtain rfl : k = n := by omega
        have h5 : ¬ (500 : Int) < (k : Int) := by omega
        by_cases h8 : 8000 < s
        · have h8' : (8000 : Int) < (s : Int) := by omega
          have hr : Hid (res = true) := Lib.hid (by rw [HGR.out, HF.out, HES.out, decide_eq_true h8, Bool.or_true])
          go_wp2
          go_ret
          exact ⟨by rw [hr.out]; rfl, BW.out⟩
        · have h8' : ¬ (8000 : Int) < (s : Int) := by omega
          have hr : Hid (res = false) := Lib.hid (by rw [HGR.out, HF.out, HES.out, HN.out, decide_eq_false h8, decide_eq_false hbig]; rfl)
          go_wp2
          go_ret
          exact ⟨by rw [hr.out]; rfl, BW.out⟩
/-- The document's example. -/
def Alive7 : Prop := ∀ w, Okw w → Calls Tryd.prog 8 #[] w fun e w' => e = .returned (.bool true) ∧ Below w.heap.size w w'
theorem ex7 : mkE [(⟨#[108]⟩, ⟨#[105]⟩, 1), (⟨#[114, 110]⟩, ⟨#[109]⟩, 2)] 2 = 0 ∧ mkS [(⟨#[108]⟩, ⟨#[105]⟩, 1), (⟨#[114, 110]⟩, ⟨#[109]⟩, 2)] 2 = [(⟨#[114, 110]⟩, ⟨#[109]⟩, 11)] := by
  decide +kernel
theorem ex7c : rchk (⟨#[]⟩, ⟨#[]⟩, 0) = 7 := by decide +kernel
set_option maxRecDepth 100000 in
set_option maxHeartbeats 4000000 in
theorem alive7_any : Alive7 := by
  intro w h
  have r0 := lit_blks w [(⟨#[108]⟩, ⟨#[105]⟩, 1), (⟨#[114, 110]⟩, ⟨#[109]⟩, 2)] (by simp)
  change GRuns blkCell 3 (w.alloc (.cells #[.string ⟨#[108]⟩, .string ⟨#[105]⟩, .int .i64 1, .string ⟨#[114, 110]⟩, .string ⟨#[109]⟩, .int .i64 2] 40)) (.slice (some ⟨w.heap.size, 0, none⟩) 2 2) _ at r0
  have b0 := blw_one w (.cells #[.string ⟨#[108]⟩, .string ⟨#[105]⟩, .int .i64 1, .string ⟨#[114, 110]⟩, .string ⟨#[109]⟩, .int .i64 2] 40)
  obtain ⟨wa, hwa⟩ : ∃ z, w.alloc (.cells #[.string ⟨#[108]⟩, .string ⟨#[105]⟩, .int .i64 1, .string ⟨#[114, 110]⟩, .string ⟨#[109]⟩, .int .i64 2] 40) = z := ⟨_, rfl⟩
  rw [hwa] at r0 b0
  have c1 := rmake_any (.slice (some ⟨w.heap.size, 0, none⟩) 2 2) [(⟨#[108]⟩, ⟨#[105]⟩, 1), (⟨#[114, 110]⟩, ⟨#[109]⟩, 2)] 2 wa (h.below b0) r0 (by simp) (fun b hb => by
    simp only [List.mem_cons, List.mem_nil_iff, or_false] at hb
    rcases hb with rfl | rfl <;> exact ⟨by decide, by decide⟩)
  have c2 := fun w hO => rcheck_any ⟨#[]⟩ ⟨#[]⟩ 0 w hO (by decide) (by decide)
  rw [ex7.1, ex7.2] at c1
  simp only [ex7c] at c2
  have C1 := Lib.hid c1; have C2 := Lib.hid c2; have HWA := Lib.hid hwa; have HB0 := Lib.hid b0; have HOK := Lib.hid (h.below b0)
  clear c1 c2 hwa b0 r0
  go_enter Tryd.func8, Tryd.ntmps8
  go_wp2_with fail
  rw [HWA.out]
  refine C1.out.mono ?_
  rintro e w1 ⟨v, rfl, r1, b1⟩
  obtain ⟨A, c, rfl⟩ := r1.slice
  obtain ⟨b, o, rfl, hlt, hc⟩ := r1.cells rfl (by simp)
  obtain ⟨f0, f1, f2⟩ := blk_cells (j := 0) hc rfl
  simp at f0 f1 f2
  have K1 : Hid (Okw w1) := Lib.hid (HOK.out.below b1)
  have B1 := Lib.hid (HB0.out.trans (b1.mono HB0.out.size))
  clear hc r1 b1
  simp only [List.length_cons, List.length_nil, Nat.zero_add]
  go_wp2_with fail
  refine (C2.out _ K1.out).mono ?_
  rintro e w4 ⟨rfl, b4⟩
  have B4 := Lib.hid (B1.out.trans (b4.mono B1.out.size)); clear b4
  go_wp2
  go_ret
  exact ⟨rfl, B4.out⟩
end Go.Proofs.YtnognphjndpgkaaDoor

/- errataref07.Check, Less, all, Is, Find, Same: what each answers. -/
namespace Go.Proofs.YtnognphjndpgkaaDoor
open Go.RowKit Go.Shelf
set_option linter.unusedSimpArgs false
set_option linter.unusedVariables false

theorem rall_append (a b : List Blk) : rall (a ++ b) = if rall a = 0 then rall b else rall a := by
  induction a with
  | nil => simp [rall]
  | cons x a ih =>
    rw [List.cons_append, rall, rall, ih]
    by_cases h : rchk x = 0
    · simp only [h, if_true]
    · simp only [h, if_false]
theorem rall_take {l : List Blk} (k : Nat) (x : Blk) (h : l[k]? = some x) (h0 : rall (l.take k) = 0) : (rchk x = 0 → rall (l.take (k + 1)) = 0) ∧ (rchk x ≠ 0 → rall l = rchk x) := by
  refine ⟨fun hx => ?_, fun hx => ?_⟩
  · rw [List.take_add_one, h, rall_append, if_pos h0]; simp [rall, hx]
  · have e : l = l.take k ++ x :: l.drop (k + 1) := by
      have hk := (List.getElem?_eq_some_iff.1 h).1
      have hx2 := (List.getElem?_eq_some_iff.1 h).2
      rw [← hx2, ← List.drop_eq_getElem_cons hk, List.take_append_drop]
    rw [e, rall_append, if_pos h0, rall, if_neg hx]
theorem cells3_box (w : World) (a b c : Value) (t : TypeId) : (w.alloc (.cells #[a, b, c] t)).cell? ⟨w.heap.size, 0, none⟩ = some a ∧ (w.alloc (.cells #[a, b, c] t)).cell? ⟨w.heap.size, 1, none⟩ = some b ∧ (w.alloc (.cells #[a, b, c] t)).cell? ⟨w.heap.size, 2, none⟩ = some c := by
  have h := heap_alloc_new w (.cells #[a, b, c] t)
  refine ⟨?_, ?_, ?_⟩ <;> (rw [cell_of_row _ _ _ _ _ _ h]; rfl)
set_option maxRecDepth 100000 in
set_option maxHeartbeats 4000000 in
theorem refCheck7_any (a b : ByteArray) (N : Int) (w : World) (ha : a.size ≤ 2000000) (hb : b.size ≤ 2000000) :
    Calls Tryd.prog 13 #[.agg #[.string a, .string b, .int .i64 N]] w fun e w' => e = .returned (.int .i64 (rchk (a, b, N))) ∧ Below w.heap.size w w' := by
  have c5 := fun w => refCheck5_any a b 1 w (by omega) (by omega)
  have hR : rchk (a, b, N) = if chkS (a, b, 1) = 0 then (if N < 1 ∨ 255 < N then 2 else 0) else chkS (a, b, 1) := rfl
  obtain ⟨res, hres⟩ : ∃ r, rchk (a, b, N) = r := ⟨_, rfl⟩
  obtain ⟨er, her⟩ : ∃ r, chkS (a, b, 1) = r := ⟨_, rfl⟩
  rw [hres] at hR ⊢
  rw [her] at hR
  simp only [her] at c5
  obtain ⟨a0, a1, a2⟩ := cells3_box w (.string a) (.string b) (.int .i64 N) 24
  have hal : Below w.heap.size w (w.alloc (.cells #[.string a, .string b, .int .i64 N] 24)) := (Below.refl _ _).alloc (Nat.le_refl _) _
  have hlt : w.heap.size < (w.alloc (.cells #[.string a, .string b, .int .i64 N] 24)).heap.size := by simp
  obtain ⟨W1, hW1⟩ : ∃ z, w.alloc (.cells #[.string a, .string b, .int .i64 N] 24) = z := ⟨_, rfl⟩
  rw [hW1] at a0 a1 a2 hal hlt
  obtain ⟨bx, hbx⟩ : ∃ z, w.heap.size = z := ⟨_, rfl⟩
  rw [hbx] at a0 a1 a2 hlt
  have HW1 := Lib.hid hW1; have HBX := Lib.hid hbx; have HAL := Lib.hid hal; have C5 := Lib.hid c5; have HR := Lib.hid hR
  clear hW1 hbx hal c5 hR hres her
  go_enter Tryd.func13, Tryd.ntmps13
  go_wp2_with fail
  rw [HW1.out, HBX.out]
  refine (C5.out _).mono ?_
  rintro e w2 ⟨rfl, b2⟩
  have d2 := (b2.cell (p := ⟨bx, 2, none⟩) hlt).trans a2
  have B2 : Hid (Below w.heap.size w w2) := Lib.hid (HAL.out.trans (b2.mono HAL.out.size))
  clear b2 a0 a1 a2
  by_cases h0 : er = 0
  · subst h0
    by_cases h1 : N < 1
    · have hr : Hid (res = 2) := Lib.hid (by rw [HR.out, if_pos (by first | rfl | trivial), if_pos (.inl h1)])
      go_wp2
      go_ret
      exact ⟨by rw [hr.out]; rfl, B2.out⟩
    · by_cases h2 : 255 < N
      · have hr : Hid (res = 2) := Lib.hid (by rw [HR.out, if_pos (by first | rfl | trivial), if_pos (.inr h2)])
        go_wp2
        go_ret
        exact ⟨by rw [hr.out]; rfl, B2.out⟩
      · have hr : Hid (res = 0) := Lib.hid (by rw [HR.out, if_pos (by first | rfl | trivial), if_neg (by omega)])
        go_wp2
        go_ret
        exact ⟨by rw [hr.out]; rfl, B2.out⟩
  · have h0' : (er == 0) = false := by simpa using h0
    have hr : Hid (res = er) := Lib.hid (by rw [HR.out, if_neg h0])
    go_wp2
    go_ret
    exact ⟨by rw [hr.out]; rfl, B2.out⟩
set_option maxRecDepth 100000 in
set_option maxHeartbeats 4000000 in
theorem refLess7_any (a b c d : ByteArray) (N M : Int) (w : World) :
    Calls Tryd.prog 15 #[.agg #[.string a, .string b, .int .i64 N], .agg #[.string c, .string d, .int .i64 M]] w fun e w' => e = .returned (.bool (lessB (a, b, N) (c, d, M))) ∧ Below w.heap.size w w' := by
  obtain ⟨res, hres⟩ : ∃ r, lessB (a, b, N) (c, d, M) = r := ⟨_, rfl⟩
  rw [hres]
  unfold lessB at hres
  simp only at hres
  have HR := Lib.hid hres; clear hres
  have hal : Hid (Below w.heap.size w ((w.alloc (.cells #[.string a, .string b, .int .i64 N] 24)).alloc (.cells #[.string c, .string d, .int .i64 M] 24))) := Lib.hid (((Below.refl _ _).alloc (Nat.le_refl _) _).alloc (by simp) _)
  by_cases h1 : Op.bytesLess a.toList c.toList = true
  · have hr : res = true := by rw [← HR.out, if_pos h1]
    subst hr
    go_enter Tryd.func15, Tryd.ntmps15
    go_wp2
    go_ret
    exact ⟨rfl, hal.out⟩
  · by_cases h2 : a.toList = c.toList
    · have hr : Hid (res = Op.bytesLess b.toList d.toList) := Lib.hid (by rw [← HR.out, if_neg h1, if_pos h2])
      obtain rfl := toList_ext h2
      have h1' : Op.bytesLess a.toList a.toList = false := by simpa using h1
      clear h1 h2
      go_enter Tryd.func15, Tryd.ntmps15
      go_wp2
      go_ret
      exact ⟨ret_bool (by rw [hr.out]), hal.out⟩
    · have hr : res = false := by rw [← HR.out, if_neg h1, if_neg h2]
      subst hr
      have h1' : Op.bytesLess a.toList c.toList = false := by simpa using h1
      have h2' : (a.toList == c.toList) = false := beq_eq_false_iff_ne.2 h2
      go_enter Tryd.func15, Tryd.ntmps15
      go_wp2
      go_ret
      exact ⟨rfl, hal.out⟩

set_option maxRecDepth 100000 in
set_option maxHeartbeats 8000000 in
theorem refAll_any (u : Value) (l : List Blk) (w : World) (hu : BRuns w u l) (hl : l.length ≤ 2000000) (hz : ∀ b ∈ l, b.1.size ≤ 2000000 ∧ b.2.1.size ≤ 2000000) :
    Calls Tryd.prog 26 #[u] w fun e w' => e = .returned (.int .i64 (rall l)) ∧ Below w.heap.size w w' := by
  obtain ⟨A, c, e⟩ := hu.slice
  subst e
  have HU := Lib.hid hu; clear hu
  obtain ⟨n, hn⟩ : ∃ n, l.length = n := ⟨_, rfl⟩
  obtain ⟨res, hres⟩ : ∃ r, rall l = r := ⟨_, rfl⟩
  rw [hres]
  have HT := Lib.hid hres; clear hres
  rw [hn] at hl HU ⊢
  have HN := Lib.hid hn; clear hn
  have HZ := Lib.hid hz; clear hz
  have C5 := Lib.hid refCheck7_any
  go_enter Tryd.func26, Tryd.ntmps26
  go_wp2
  go_loopw [8] (fun s8 wr => ∃ k : Nat, k ≤ n ∧ s8 = .int .i64 k ∧ Hid (rall (l.take k) = 0) ∧ Hid (Below w.heap.size w wr)) (fun s8 _ => n - (RowKit.intOf s8).toNat)
  case atStart => exact ⟨0, Nat.zero_le _, rfl, Lib.hid rfl, Lib.hid (Below.refl _ _)⟩
  case round =>
    obtain ⟨k, hkn, rfl, HC, BW⟩ := hrel
    by_cases hk : k < n
    · have k1 : (k : Int) < (n : Int) := by omega
      obtain ⟨⟨p1, p2, p3⟩, hp⟩ : ∃ p, l[k]? = some p := ⟨_, List.getElem?_eq_getElem (by rw [HN.out]; exact hk)⟩
      obtain ⟨b, o, rfl, _, hc⟩ := (HU.out.below BW.out).cells HN.out (by omega)
      obtain ⟨g0, g1, g2⟩ := blk_cells hc hp
      simp only at g0 g1 g2
      have hz1 := HZ.out _ (List.mem_of_getElem? hp)
      have hch := rall_take k _ hp HC.out
      simp only at hz1
      obtain ⟨er, her⟩ : ∃ z, rchk (p1, p2, p3) = z := ⟨_, rfl⟩
      rw [her] at hch
      have HCH := Lib.hid hch
      have hal : Hid (Below w.heap.size w (wr.alloc (.cells #[.string p1, .string p2, .int .i64 p3] 24))) := Lib.hid (BW.out.alloc BW.out.size _)
      have c5 := C5.out p1 p2 p3 (wr.alloc (.cells #[.string p1, .string p2, .int .i64 p3] 24)) hz1.1 hz1.2
      rw [her] at c5
      have CC := Lib.hid c5
      clear hc hp hch c5 her
      go_wp2_with fail
      refine CC.out.mono ?_
      rintro e w5 ⟨rfl, b5⟩
      have B5 : Hid (Below w.heap.size w w5) := Lib.hid (hal.out.trans (b5.mono hal.out.size))
      clear b5
      by_cases h0 : er = 0
      · subst h0
        go_wp2
        exact ⟨⟨k + 1, by omega, by go_num, Lib.hid (HCH.out.1 (by first | rfl | trivial)), B5⟩, by simp [RowKit.intOf]; omega⟩
      · have h0' : (er == 0) = false := by simpa using h0
        have hr : Hid (res = er) := Lib.hid (by rw [← HT.out]; exact HCH.out.2 h0)
        go_wp2
        go_ret
        exact ⟨by rw [hr.out]; rfl, B5.out⟩
    · obtain rfl : k = n := by omega
      have hr : Hid (res = 0) := Lib.hid (by have := HC.out; rw [← HN.out, List.take_length] at this; rw [← HT.out]; exact this)
      clear HC
      go_wp2
      go_ret
      exact ⟨by rw [hr.out]; rfl, BW.out⟩
set_option maxRecDepth 100000 in
set_option maxHeartbeats 8000000 in
theorem refIs_any (u : Value) (l : List Blk) (w : World) (hu : BRuns w u l) (hl : l.length ≤ 1000000) (hz : ∀ b ∈ l, b.1.size ≤ 2000000 ∧ b.2.1.size ≤ 2000000) :
    Calls Tryd.prog 11 #[u] w fun e w' => e = .returned (.int .i64 (risS l)) ∧ Below w.heap.size w w' := by
  obtain ⟨A, c, e⟩ := hu.slice
  subst e
  have ca := refAll_any (.slice A l.length c) l w hu (by omega) hz
  have HU := Lib.hid hu; clear hu
  obtain ⟨n, hn⟩ : ∃ n, l.length = n := ⟨_, rfl⟩
  have hT : risS l = if rall l = 0 then (if ordB l then (if 4096 < n then 6 else 0) else 7) else rall l := by rw [risS, hn]
  obtain ⟨res, hres⟩ : ∃ r, risS l = r := ⟨_, rfl⟩
  rw [hres] at hT ⊢
  have HT := Lib.hid hT; clear hT hres
  rw [hn] at hl HU ca ⊢
  have HN := Lib.hid hn; clear hn hz
  have CL := Lib.hid refLess7_any
  obtain ⟨ra, hra⟩ : ∃ z, rall l = z := ⟨_, rfl⟩
  rw [hra] at ca
  have HRA := Lib.hid hra; have CA := Lib.hid ca
  clear hra ca
  go_enter Tryd.func11, Tryd.ntmps11
  go_wp2_with fail
  refine CA.out.mono ?_
  rintro e w1 ⟨rfl, b1⟩
  have BW := Lib.hid b1; clear b1
  by_cases h00 : ra = 0
  · subst h00
    have HC0 : Hid (rall l = 0) := Lib.hid HRA.out
    go_wp2
    go_loopw [12] (fun s18 wr' => ∃ j : Nat, j ≤ n ∧ s18 = .int .i64 j ∧ Hid (ordB (l.take j) = true) ∧ Hid (Below w.heap.size w wr')) (fun s18 _ => n - (RowKit.intOf s18).toNat)
    case atStart => exact ⟨0, Nat.zero_le _, rfl, Lib.hid rfl, BW⟩
    case round =>
      obtain ⟨j, hjk, rfl, HO, BW2⟩ := hrel
      by_cases hj : j < n
      · have j1 : (j : Int) < (n : Int) := by omega
        rcases Nat.eq_zero_or_pos j with h0 | h0
        · subst h0
          go_wp2
          go_quiet (fail)
          go_wp2
          exact ⟨⟨1, by omega, by go_num, Lib.hid (ordB_one l), Lib.hid (below_draws BW2.out _)⟩, by simp [RowKit.intOf]; omega⟩
        · obtain ⟨i, hi⟩ : ∃ i : Nat, (j : Int) - 1 = (i : Int) := ⟨j - 1, by omega⟩
          have ei : j = i + 1 := by omega
          have EI := Lib.hid ei
          obtain ⟨⟨y1, y2, y3⟩, hy⟩ : ∃ p, l[i]? = some p := ⟨_, List.getElem?_eq_getElem (by rw [HN.out]; omega)⟩
          obtain ⟨⟨x1, x2, x3⟩, hx⟩ : ∃ p, l[j]? = some p := ⟨_, List.getElem?_eq_getElem (by rw [HN.out]; omega)⟩
          have RW := Lib.hid (HU.out.below BW2.out)
          obtain ⟨b, o, rfl, hblt, hc⟩ := RW.out.cells HN.out (by omega)
          obtain ⟨g0, g1, g2⟩ := blk_cells hc hy
          obtain ⟨g3, g4, g5⟩ := blk_cells hc hx
          simp only at g0 g1 g2 g3 g4 g5
          have hor := ordB_take i (y1, y2, y3) (x1, x2, x3) hy (by rw [← ei]; exact hx) (by rw [← ei]; exact HO.out)
          have c5 := fun w => CL.out y1 y2 x1 x2 y3 x3 w
          obtain ⟨le, hle⟩ : ∃ z, lessB (y1, y2, y3) (x1, x2, x3) = z := ⟨_, rfl⟩
          simp only [hle] at c5 hor
          have HOR := Lib.hid hor; have C := Lib.hid c5
          clear hc hy hx hor c5 hle ei HO
          have i0 : (0 : Int) < (j : Int) := by omega
          have i1 : (i : Int) < (n : Int) := by omega
          have hwr : IntKind.i64.wrap ((j : Int) - 1) = (i : Int) := by rw [IntKind.wrap_i64]; omega
          have hwi : IntKind.i64.wrap (i : Int) = (i : Int) := by rw [IntKind.wrap_i64]; omega
          have i2 : (0 : Int) ≤ (i : Int) := by omega
          have KD : Hid (KRow w b (o + i * 3) (o + j * 3) (y1, y2, y3) (x1, x2, x3) wr.drew) := Lib.hid ⟨g0, g1, g2, g3, g4, g5, hblt, BW2.out.drew⟩
          go_wp2
          go_region_held3 (fun w' => w'.cell? ⟨b, o + i * 3, none⟩ = some (.string y1) ∧ w'.cell? ⟨b, o + i * 3 + 1, none⟩ = some (.string y2) ∧ w'.cell? ⟨b, o + i * 3 + 2, none⟩ = some (.int .i64 y3) ∧ w'.cell? ⟨b, o + j * 3, none⟩ = some (.string x1) ∧ w'.cell? ⟨b, o + j * 3 + 1, none⟩ = some (.string x2) ∧ w'.cell? ⟨b, o + j * 3 + 2, none⟩ = some (.int .i64 x3) ∧ Hid (KRow w b (o + i * 3) (o + j * 3) (y1, y2, y3) (x1, x2, x3) w'))
            (first | exact ⟨g0, g1, g2, g3, g4, g5, KD⟩ | exact ⟨HKn.out.a0, HKn.out.a1, HKn.out.a2, HKn.out.b0, HKn.out.b1, HKn.out.b2, HKn⟩ | go_keep)
            (first
              | (go_at_call 15; refine (C.out _).mono ?_; rintro e w4 ⟨rfl, hb4⟩; have HKn := Lib.hid ((by assumption : Hid (KRow w b (o + i * 3) (o + j * 3) (y1, y2, y3) (x1, x2, x3) _)).out.step hb4); clear hb4))
          rename_i hHeld
          clear hHeld
          have B4 : Hid (Below w.heap.size w w4) := Lib.hid HKn.out.bel
          cases le
          · have hr : Hid (res = 7) := Lib.hid (by rw [HT.out, if_pos HC0.out, if_neg (by rw [HOR.out.2 rfl]; simp)])
            go_wp2
            go_ret
            exact ⟨by rw [hr.out]; rfl, B4.out⟩
          · go_wp2
            exact ⟨⟨j + 1, by omega, by go_num, Lib.hid (by have := HOR.out.1 rfl; rwa [← EI.out] at this), B4⟩, by simp [RowKit.intOf]; omega⟩
      · obtain rfl : j = n := by omega
        have HO0 : Hid (ordB l = true) := Lib.hid (by have := HO.out; rwa [← HN.out, List.take_length] at this)
        clear HO BW
        by_cases hbig : 4096 < j
        · have hb1 : (4096 : Int) < (j : Int) := by omega
          have hr : Hid (res = 6) := Lib.hid (by rw [HT.out, if_pos HC0.out, if_pos HO0.out, if_pos hbig])
          go_wp2
          go_ret
          exact ⟨by rw [hr.out]; rfl, BW2.out⟩
        · have hb1 : ¬ (4096 : Int) < (j : Int) := by omega
          have hr : Hid (res = 0) := Lib.hid (by rw [HT.out, if_pos HC0.out, if_pos HO0.out, if_neg hbig])
          go_wp2
          go_ret
          exact ⟨by rw [hr.out]; rfl, BW2.out⟩
  · have h00' : (ra == 0) = false := by simpa using h00
    have hr : Hid (res = ra) := Lib.hid (by rw [HT.out, HRA.out, if_neg h00])
    go_wp2
    go_ret
    exact ⟨by rw [hr.out]; rfl, BW.out⟩
set_option maxRecDepth 100000 in
set_option maxHeartbeats 4000000 in
theorem refSame7_any (u v : Value) (x y : List Blk) (w : World) (hx : BRuns w u x) (hy : BRuns w v y) :
    Calls Tryd.prog 20 #[u, v] w fun e w' => e = .returned (.bool (decide (x = y))) ∧ Drawn w w' := by
  obtain ⟨A, c, rfl, hxc, ⟨hxm, _⟩, hxx⟩ := hx
  obtain ⟨B, d, rfl, hyc, ⟨hym, _⟩, hyy⟩ := hy
  unfold maxLen at hxm hym
  obtain ⟨n, hn⟩ : ∃ n, x.length = n := ⟨_, rfl⟩
  obtain ⟨m, hm⟩ : ∃ m, y.length = m := ⟨_, rfl⟩
  obtain ⟨res, hr⟩ : ∃ r, decide (x = y) = r := ⟨_, rfl⟩
  rw [hr]
  rw [hn] at hxc hxx ⊢
  rw [hm] at hyc hyy ⊢
  have Hn := Lib.hid hn; have Hm := Lib.hid hm; have HR := Lib.hid hr
  have HX := Lib.hid hxx; have HY := Lib.hid hyy
  clear hn hm hr hxx hyy
  by_cases hnm : n = m
  · subst hnm
    go_enter Tryd.func20, Tryd.ntmps20
    go_wp2
    go_loopg [13] n (fun g s13 wr => ∃ k q : Nat, k ≤ n ∧ n - k ≤ g ∧ s13 = .int .i64 k ∧ wr = w.drewN q ∧ Hid (x.take k = y.take k))
    case atStart => exact ⟨0, 0, Nat.zero_le _, by omega, rfl, rfl, Lib.hid (by simp)⟩
    case round =>
      obtain ⟨k, q, hkn, hg, rfl, rfl, HC⟩ := hrel
      by_cases h1 : k < n
      · obtain ⟨b, o, rfl, hb, hc1⟩ := HX.out (by omega)
        obtain ⟨b', o', rfl, hb', hc2⟩ := HY.out (by omega)
        obtain ⟨⟨p1, p2, p3⟩, hp⟩ : ∃ p, x[k]? = some p := ⟨_, List.getElem?_eq_getElem (by rw [Hn.out]; exact h1)⟩
        obtain ⟨⟨q1, q2, q3⟩, hq⟩ : ∃ p, y[k]? = some p := ⟨_, List.getElem?_eq_getElem (by rw [Hm.out]; exact h1)⟩
        obtain ⟨e1, e2, e3⟩ := blk_cells hc1 hp
        obtain ⟨f1, f2, f3⟩ := blk_cells hc2 hq
        simp only at e1 e2 e3 f1 f2 f3
        clear hc1 hc2
        have NE : Hid ((p1, p2, p3) ≠ (q1, q2, q3) → x ≠ y) := Lib.hid (fun hne e => hne (by rw [e, hq] at hp; exact (Option.some.inj hp).symm))
        have ST : Hid ((p1, p2, p3) = (q1, q2, q3) → x.take (k + 1) = y.take (k + 1)) := Lib.hid (fun he => by rw [List.take_add_one, List.take_add_one, HC.out, hp, hq, he])
        clear hp hq
        have i1 : (k : Int) < (n : Int) := by omega
        have hcs : (p1 = q1 ∧ p2 = q2 ∧ p3 = q3) ∨ (p1.toList == q1.toList) = false ∨ ((p1.toList == q1.toList) = true ∧ (p2.toList == q2.toList) = false) ∨ ((p1.toList == q1.toList) = true ∧ (p2.toList == q2.toList) = true ∧ (p3 == q3) = false) := by
          by_cases h1 : p1.toList = q1.toList
          · by_cases h2 : p2.toList = q2.toList
            · by_cases h3 : p3 = q3
              · exact .inl ⟨toList_ext h1, toList_ext h2, h3⟩
              · exact .inr (.inr (.inr ⟨by simpa using h1, by simpa using h2, by simpa using h3⟩))
            · exact .inr (.inr (.inl ⟨by simpa using h1, by simpa using h2⟩))
          · exact .inr (.inl (by simpa using h1))
        rcases hcs with ⟨rfl, rfl, rfl⟩ | h1 | ⟨h1, h2⟩ | ⟨h1, h2, h3⟩
        · go_wp2
          go_quiet (fail)
          go_wp2
          go_roundg (n - (k + 1))
          case measure => omega
          case rel => exact ⟨k + 1, _, by omega, by omega, by go_num, by first | rfl | rw [World.drewN_drewN], Lib.hid (ST.out (by first | rfl | trivial))⟩
        all_goals
          have hno : x ≠ y := NE.out (by
            intro e
            simp only [Prod.mk.injEq] at e
            obtain ⟨rfl, rfl, rfl⟩ := e
            simp at *)
          have HNO := Lib.hid hno
          clear hno
          go_wp2
          go_quiet (fail)
          go_wp2
          go_ret
          exact ⟨ret_bool (by rw [← HR.out]; symm; simpa using HNO.out), by first | exact Drawn.of2 _ _ _ | exact Drawn.of3 _ _ _ _⟩
      · obtain rfl : n = k := by omega
        go_wp2
        go_ret
        exact ⟨ret_bool (by rw [← HR.out, decide_eq_true (take_eq_all x y (by rw [Hn.out, Hm.out]) (by rw [Hn.out]; exact HC.out))]), Drawn.of _ _⟩
  · have h1 : ((n : Int) == (m : Int)) = false := by simp; omega
    go_enter Tryd.func20, Tryd.ntmps20
    go_wp2
    go_ret
    exact ⟨ret_bool (by rw [← HR.out]; symm; rw [decide_eq_false_iff_not]; rintro rfl; exact hnm (Hn.out.symm.trans Hm.out)), Drawn.refl _⟩
end Go.Proofs.YtnognphjndpgkaaDoor

/- What every law's proof needs around its walk: the arguments read as they did wherever old memory is kept; a world for the witness; what the listed tables give. -/
namespace Go.Proofs.YtnognphjndpgkaaDoor
open Go.ChangeShapes Go.WideShapes Go.ChangeAt Go.RowKit Go.Shelf

theorem own : ownKnob Tryd.prog.godebug = none := by kernel_rfl
theorem laidOut : laidOutB Tryd.prog = true := by kernel_rfl

theorem trodAll_below {H : Type} {enc : TypeId × Value → H} {P : Program} (hl : laidOutB P = true) {W W' : World} (hb : Below W.heap.size W W') :
    ∀ (ts : List TypeId) (vs : List Value) (ds : List (DataW H)) (ps : List MemPlace), (∀ t ∈ ts, P.readableRec t = true ∧ t < P.types.size) → (∀ x ∈ ps, x.block < W.heap.size) →
      DataW.TrodAll enc P W 0 (fun _ => true) true ts vs ds ps → DataW.TrodAll enc P W' 0 (fun b => decide (b < W.heap.size)) true ts vs ds ps
  | [], vs, ds, ps, _, _, h => by
    obtain ⟨rfl, rfl, rfl⟩ := trodAll_nil h
    exact trodAll_mk0
  | t :: ts, vs, ds, ps, ht, hp, h => by
    obtain ⟨v0, vs0, d0, ds0, p0, q0, rfl, rfl, rfl, h0, r0⟩ := trodAll_cons h
    exact trodAll_cons_mk (Below.trod hl (ht t (by simp)).1 (ht t (by simp)).2 h0 hb (fun x hx => hp x (by simp [hx]))) (trodAll_below hl hb ts vs0 ds0 q0 (fun t' h' => ht t' (by simp [h'])) (fun x hx => hp x (by simp [hx])) r0)

theorem cells32 : Tryd.prog.cellsOf 21 = 1 := by kernel_rfl
set_option maxRecDepth 100000 in
/-- An argument of type []int32 reads as a list of numbers of that kind. -/
theorem runs_of_arg {H : Type} {enc : TypeId × Value → H} {W : World} {base : Nat} {v : Value} {d : DataW H} {p : List MemPlace} (hv : Value.okWide Tryd.prog W .any base 68 v) (h : DataW.Trod enc Tryd.prog W 0 (fun _ => true) true 68 v d p) :
    ∃ a : List Int, Runs W v a ∧ ∀ x ∈ a, -2147483648 ≤ x ∧ x ≤ 2147483647 := by
  obtain ⟨a0, len, cap, rfl⟩ := okWide_slice Tryd.underlying68 hv
  obtain ⟨fuel, hf⟩ := h
  rcases open_ints Tryd.underlying68 Tryd.underlying21 cells32 hf with ⟨hcs, _⟩ | ⟨a, len', cap', zs, hcs, _, hl, hm, hz, _, hcell, hwz⟩
  · have e : Value.slice a0 len cap = .slice none 0 0 := by simpa [Value.cells] using hcs
    rw [e]
    exact ⟨[], Runs.nil_ _, by simp⟩
  · have e : Value.slice a0 len cap = .slice (some a) len' cap' := by simpa [Value.cells] using hcs
    rw [e]
    simp only [if_true] at hz
    have hlen : (zs.take len').length = len' := by rw [List.length_take]; omega
    refine ⟨zs.take len', ⟨some a, cap', by rw [hlen], by omega, ⟨hm, fun h => by cases h⟩, fun h0 => ?_⟩, fun x hx => bounds_i32 (hwz x (List.mem_of_mem_take hx))⟩
    obtain ⟨b, off, rfl, hc⟩ := ints_at hcell (by omega)
    have h00 := hc 0 (by omega)
    refine ⟨b, off, rfl, ?_, fun j hj => ?_⟩
    · rcases Nat.lt_or_ge b W.heap.size with h' | h'
      · exact h'
      · simp [World.cell?, Array.getElem?_eq_none h'] at h00
    · rw [hc j (by omega)]
      simp only [List.getD_eq_getElem?_getD, List.getElem?_take]
      rw [if_pos (by omega)]

/-- A law that answered true and changed nothing old has its row's post. -/
theorem law_post {H : Type} {enc : TypeId × Value → H} {P : Program} {f : Func} {s : ChangeSpec} {W W' : World} {args : Array Value} {ds gs : List (DataW H)} {before : List MemPlace} {tb : TypeId}
    (hl : laidOutB P = true) (hts : ∀ t ∈ f.params.toList, P.readableRec t = true ∧ t < P.types.size) (hW : DataW.Whole enc P f.params.toList s.vars false W args.toList ds gs before) (hb : Below W.heap.size W W')
    (hbool : P.underlying tb = some .bool) (hrt : f.resultTypes = #[tb]) (hs : s.vars = []) (h1 : (s.fn H (ds ++ gs)).results = [.lit (.bool true)]) (h2 : (s.fn H (ds ++ gs)).args = ds) (h3 : (s.fn H (ds ++ gs)).vars = []) :
    s.post enc P f false true false false W args (.bool true) W' := by
  have hW' := hW
  obtain ⟨p, q, hA, hV, hbef, _, _⟩ := hW
  have hlt : ∀ x ∈ p, x.block < W.heap.size := fun x hx => hW'.lt x (by rw [hbef]; simp [hx])
  refine ⟨ds, gs, before, [], p, [], hW', ?_, ?_, ?_, hb.frame _, fun h => by cases h⟩
  · rw [hrt, h1]; exact trodAll_cons_mk (shut_bool hbool _) trodAll_mk0
  · rw [h2]; exact trodAll_below hl hb _ _ _ _ hts hlt hA
  · rw [hs, h3]; rfl

/-- The list of variables that every row of this seat bears. -/
def laidList : List (String × DataW Unit) := [("unicode/utf8.acceptRanges", Rows.laid_unicode_utf8_acceptRanges), ("unicode/utf8.first", Rows.laid_unicode_utf8_first)]
theorem accept_same : (Rows.laid_unicode_utf8_acceptRanges : DataW Unit) = Lib.acceptData := by kernel_rfl
theorem first_same : Rows.laid_unicode_utf8_first = Lib.firstData := by kernel_rfl

theorem okw_of_laid {W : World} (hL : laidMetH Tryd.prog laidList W) : Okw W := by
  have h : laidMet Tryd.prog laidList W := hL
  have ht : Tabs W := utf8Tabs_of_readsT (U8Types.of260 Tryd.lays260) ⟨by kernel_rfl, by kernel_rfl, by kernel_rfl, by kernel_rfl, by kernel_rfl, by kernel_rfl, by kernel_rfl⟩
    (by have := Lib.laidMet.reads h (n := "unicode/utf8.first") (d := Rows.laid_unicode_utf8_first) (by simp [laidList]); rwa [first_same] at this)
    (by have := Lib.laidMet.reads h (n := "unicode/utf8.acceptRanges") (d := Rows.laid_unicode_utf8_acceptRanges) (by simp [laidList]); rwa [accept_same] at this)
  have lt : ∀ {a : Addr} {v : Value}, W.cell? a = some v → a.block < W.heap.size := fun {a v} hc => by
    rcases Nat.lt_or_ge a.block W.heap.size with h' | h'
    · exact h'
    · simp [World.cell?, Array.getElem?_eq_none h'] at hc
  exact ⟨ht, lt (ht.1 0 (by decide)), lt (ht.2 0 (by decide)).1⟩

def putCells (cs : Array Value) : Obj → Obj
  | .cells _ t frozen => .cells cs t frozen
  | o => o
/-- A world for the witness: the settled one, the two tables as their initialisers lay them. -/
noncomputable def laidWorld (os : Os) : World :=
  { World.holding Tryd.prog os ⟨#[], #[], []⟩ with heap := ((World.holding Tryd.prog os ⟨#[], #[], []⟩).heap.modify 0 (putCells (Lib.firstTab.map fun z => Value.int .u8 z).toArray)).modify 1 (putCells ((List.range 16).flatMap fun i => [Value.int .u8 (Lib.accLo i), Value.int .u8 (Lib.accHi i)]).toArray) }
theorem laid_met (os : Os) (args : Array Value) : laidMet Tryd.prog laidList ((laidWorld os).forCall (fun _ _ => 0) ⟨#[], args, []⟩).memory :=
  laidMet_of_run' 8 (by kernel_rfl) (by kernel_rfl)
end Go.Proofs.YtnognphjndpgkaaDoor

/- Arguments opened: a slice of structs, a slice of blocks; how long their texts may be. -/
namespace Go.Proofs.YtnognphjndpgkaaDoor
open Go.ChangeShapes Go.WideShapes Go.ChangeAt Go.RowKit Go.Shelf Go.Deep Go.Joins
set_option linter.unusedSimpArgs false
set_option linter.unusedVariables false

theorem blkFields : ∃ f0 f1 f2 : Field, Tryd.prog.underlying 40 = some (.struct #[f0, f1, f2]) ∧ f0.type = 9 ∧ f0.offset = 0 ∧ f1.type = 9 ∧ f1.offset = 1 ∧ f2.type = 3 ∧ f2.offset = 2 :=
  ⟨_, _, _, Tryd.underlying40, rfl, rfl, rfl, rfl, rfl, rfl⟩
theorem cellsBlk6 : Tryd.prog.cellsOf 40 = 3 := by kernel_rfl
theorem cellsInt6 : Tryd.prog.cellsOf 3 = 1 := by kernel_rfl
theorem cellsStr6 : Tryd.prog.cellsOf 9 = 1 := by kernel_rfl
def blkD {H : Type} (b : Blk) : DataW H := .agg [.lit (.string b.1.data.toList), .lit (.string b.2.1.data.toList), .lit (.int .i64 b.2.2)]
set_option maxRecDepth 100000 in
theorem blk_of_cells {H : Type} {enc : TypeId × Value → H} {W : World} {fuel : Nat} {cs : List Value} {x : DataW H × List MemPlace} (h : DataW.trod enc Tryd.prog W 0 (fun _ => true) true fuel 40 cs = some x) : ∃ p : Blk, cs = blkCell p ∧ x.1 = blkD p := by
  obtain ⟨f0, f1, f2, hu, t0, o0, t1, o1, t2, o2⟩ := blkFields
  obtain ⟨xs, n, _, hx, hlen, hxl, hf⟩ := DataW.trod_struct hu h
  rw [cellsBlk6] at hlen
  have h0 := hf 0 f0 rfl
  have h1 := hf 1 f1 rfl
  have h2 := hf 2 f2 rfl
  rw [t0, o0, cellsStr6] at h0
  rw [t1, o1, cellsStr6] at h1
  rw [t2, o2, cellsInt6] at h2
  have hx3 : xs.length = 3 := hxl
  match cs, hlen, xs, hx3 with
  | [c0, c1, c2], _, [x0, x1, x2], _ =>
    obtain ⟨a0, e0, d0, _⟩ := DataW.trod_string Tryd.underlying9 h0
    obtain ⟨a1, e1, d1, _⟩ := DataW.trod_string Tryd.underlying9 h1
    obtain ⟨a2, e2, d2, _⟩ := DataW.trod_int Tryd.underlying3 h2
    simp at e0 e1 e2 d0 d1 d2
    refine ⟨(a0, a1, a2), by rw [e0, e1, e2]; rfl, ?_⟩
    rw [hx]
    simp [blkD, d0, d1, d2]
/-- A slice of structs, read. -/
theorem gruns_of_trod {H : Type} {enc : TypeId × Value → H} {W : World} {fuel : Nat} {v : Value} {x : DataW H × List MemPlace} {tS tE : TypeId} {α : Type} (z : α) {cell : α → List Value} {dat : α → DataW H} {k : Nat} (hk0 : 0 < k) (hU : Tryd.prog.underlying tS = some (.slice tE)) (hcl : Tryd.prog.cellsOf tE = k) (hln : ∀ p, (cell p).length = k)
    (hone : ∀ {fuel : Nat} {cs : List Value} {x : DataW H × List MemPlace}, DataW.trod enc Tryd.prog W 0 (fun _ => true) true fuel tE cs = some x → ∃ p, cs = cell p ∧ x.1 = dat p)
    (h : DataW.trod enc Tryd.prog W 0 (fun _ => true) true fuel tS [v] = some x) : ∃ l : List α, GRuns cell k W v l ∧ ((x.1 = .nil ∧ l = []) ∨ ∃ sp, x.1 = .slice (l.map dat) sp) := by
  rcases open_slice hU h with ⟨h0, hx⟩ | ⟨a, len, cap, m, n, D, Pl, hcs, _, hl, hm, hmm, hx, hi⟩
  · obtain rfl : v = .slice none 0 0 := by simpa using h0
    exact ⟨[], GRuns.nil_ _ _ _, .inl ⟨by rw [hx], rfl⟩⟩
  · obtain rfl : v = .slice (some a) len cap := by simpa using hcs
    simp only [if_true] at hmm
    subst hmm
    have hex : ∀ i, i < len → ∃ p : α, (∀ j, j < k → W.cell? (a.add (i * k + j)) = (cell p)[j]?) ∧ D i = dat p := by
      intro i hil
      obtain ⟨cs', hc, ht⟩ := hi i (by omega)
      rw [hcl] at hc
      obtain ⟨p, rfl, hd⟩ := hone ht
      obtain ⟨_, _, hat⟩ := World.cells?_some hc
      exact ⟨p, fun j hj => by rw [← Go.Deep.add_add]; exact hat j hj, hd⟩
    obtain ⟨f, hf⟩ : ∃ f : Nat → α, ∀ i, i < len → (∀ j, j < k → W.cell? (a.add (i * k + j)) = (cell (f i))[j]?) ∧ D i = dat (f i) := by
      refine ⟨fun i => if hi : i < len then Classical.choose (hex i hi) else z, fun i hi => ?_⟩
      simp only [hi, dif_pos]
      exact Classical.choose_spec (hex i hi)
    have hll : ((List.range len).map f).length = len := by simp
    refine ⟨(List.range len).map f, ⟨some a, _, by rw [hll], by rw [hll]; exact hl, ⟨hm, fun h => by cases h⟩, fun hp => ?_⟩, .inr ⟨(List.range (m - len)).map fun j => D (len + j), ?_⟩⟩
    · rw [hll] at hp
      obtain ⟨b, off, spot⟩ := a
      have hc0 : 0 < (cell (f 0)).length := by rw [hln]; exact hk0
      have h00 := (hf 0 hp).1 0 hk0
      rw [List.getElem?_eq_getElem hc0] at h00
      have hspot : spot = none := by simpa [Addr.add] using World.cell?_spot h00
      subst hspot
      have hblt : b < W.heap.size := by
        have := World.block_lt_of_cell? W _ h00
        simpa [Addr.add] using this
      refine ⟨b, off, rfl, hblt, fun j x hj i u hu => ?_⟩
      have hjl : j < len := by have := (List.getElem?_eq_some_iff.1 hj).1; rwa [hll] at this
      have hxe : f j = x := by
        rw [List.getElem?_map, List.getElem?_range hjl] at hj
        simpa using hj
      have hik : i < k := by have := (List.getElem?_eq_some_iff.1 hu).1; rwa [hln] at this
      have h1 := (hf j hjl).1 i hik
      rw [hxe, hu, addr_add] at h1
      rw [Nat.add_assoc]
      exact h1
    · rw [hx]
      have e : (List.range len).map D = ((List.range len).map f).map dat := by
        rw [List.map_map]
        exact List.map_congr_left (fun i hi => (hf i (List.mem_range.1 hi)).2)
      rw [e]
set_option maxRecDepth 100000 in
theorem blks_of_arg {H : Type} {enc : TypeId × Value → H} {W : World} {base : Nat} {v : Value} {d : DataW H} {p : List MemPlace} (hv : Value.okWide Tryd.prog W .any base 38 v) (h : DataW.Trod enc Tryd.prog W 0 (fun _ => true) true 38 v d p) :
    ∃ l : List Blk, BRuns W v l ∧ ((d = .nil ∧ l = []) ∨ ∃ sp, d = .slice (l.map blkD) sp) := by
  obtain ⟨a0, len, cap, rfl⟩ := okWide_slice Tryd.underlying38 hv
  obtain ⟨fuel, hf⟩ := h
  exact gruns_of_trod (ByteArray.empty, ByteArray.empty, 0) (by decide) Tryd.underlying38 cellsBlk6 (fun _ => rfl) (fun h => blk_of_cells h) hf
/-- The form's own bound on each text. -/
theorem blks_weights {H : Type} {d : DataW H} {l : List Blk} (hd : (d = .nil ∧ l = []) ∨ ∃ sp, d = .slice (l.map blkD) sp) (hw : (DataW.weights Tryd.prog 38 d).all (· ≤ reachBytes) = true) : szM l := by
  have h3 : reachBytes = 140737488351232 := by decide
  rcases hd with ⟨_, rfl⟩ | ⟨sp, rfl⟩
  · exact fun b hb => by simp at hb
  simp only [DataW.weights, Tryd.underlying38, List.all_cons, List.all_append, Bool.and_eq_true] at hw
  have hw2 := hw.2.1
  clear hw
  induction l with
  | nil => exact fun b hb => by simp at hb
  | cons a l ih =>
    simp only [List.map_cons, DataW.weightsAll, List.all_append, Bool.and_eq_true] at hw2
    have h1 := hw2.1
    simp only [blkD, DataW.weights, Tryd.underlying40, List.map_cons, List.map_nil, DataW.weightsEach, List.all_append, List.all_cons, List.all_nil, Bool.and_true, Bool.and_eq_true, decide_eq_true_eq, h3] at h1
    intro b hb
    rcases List.mem_cons.1 hb with rfl | hb
    · rw [Lib.size_eq, Lib.size_eq]; omega
    · exact ih hw2.2 b hb
/-- The second form's bound. -/
theorem blks_bulk {H : Type} {d : DataW H} {l : List Blk} (hd : (d = .nil ∧ l = []) ∨ ∃ sp, d = .slice (l.map blkD) sp) (hw : Rows.uptoBulk d ≤ 1048576) : l.length ≤ 2000000 ∧ szL l := by
  rcases hd with ⟨_, rfl⟩ | ⟨sp, rfl⟩
  · exact ⟨by simp, fun b hb => by simp at hb⟩
  simp only [Rows.uptoBulk] at hw
  have key : ∀ l : List Blk, l.length ≤ Rows.uptoBulkAll (l.map (blkD (H := H))) ∧ ∀ b ∈ l, b.1.size ≤ Rows.uptoBulkAll (l.map (blkD (H := H))) ∧ b.2.1.size ≤ Rows.uptoBulkAll (l.map (blkD (H := H))) := by
    intro l
    induction l with
    | nil => exact ⟨by simp, fun b hb => by simp at hb⟩
    | cons a l ih =>
      have e : Rows.uptoBulkAll ((a :: l).map (blkD (H := H))) = a.1.data.toList.length + 1 + (a.2.1.data.toList.length + 1 + (1 + 0)) + 1 + Rows.uptoBulkAll (l.map (blkD (H := H))) := rfl
      rw [e, List.length_cons]
      refine ⟨by have := ih.1; omega, fun b hb => ?_⟩
      rcases List.mem_cons.1 hb with rfl | hb
      · rw [Lib.size_eq, Lib.size_eq]; omega
      · have := ih.2 b hb; omega
  obtain ⟨k1, k2⟩ := key l
  exact ⟨by omega, fun b hb => by have := k2 b hb; omega⟩
end Go.Proofs.YtnognphjndpgkaaDoor

