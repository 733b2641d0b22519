/- Texts that several proofs of this seat share, one behind the other: BOf BOf2 BLaw1 HPair DEach GenApp CGatP. -/
import Derived.Test.YtnognphjndpgkaaGreatDoorPk10
import Derived.Test.YtnognphjndpgkaaGreatDoorPk8
import Derived.Test.YtnognphjndpgkaaGreatDoorPk7
import Derived.Test.YtnognphjndpgkaaGreatDoorPk5
import Derived.Test.YtnognphjndpgkaaGreatDoorPk9
/- errataref05.Of, Long, Pair: the blocks of steps, how many are too long, the blocks of two tokens. -/
namespace Go.Proofs.YtnognphjndpgkaaGreatDoor
open Go.RowKit Go.Shelf

def selB (r : List St) : Bool := !longB r && diffB r
def selL (rs : List (List St)) : List Blk := (rs.filter selB).map blkOf
theorem selL_take (rs : List (List St)) (k : Nat) (r : List St) (hk : rs[k]? = some r) : selL (rs.take (k + 1)) = selL (rs.take k) ++ if selB r then [blkOf r] else [] := by
  unfold selL
  rw [List.take_add_one, hk, List.filter_append, List.map_append]
  congr 1
  simp only [Option.toList_some, List.filter_cons, List.filter_nil]
  split <;> simp
theorem longL_take (rs : List (List St)) (k : Nat) (r : List St) (hk : rs[k]? = some r) : ((rs.take (k + 1)).filter longB).length = ((rs.take k).filter longB).length + if longB r then 1 else 0 := by
  rw [List.take_add_one, hk, List.filter_append, List.length_append]
  congr 1
  simp only [Option.toList_some, List.filter_cons, List.filter_nil]
  split <;> simp
theorem info_blk : (Tryz.prog.info? 34).map (fun i => (i.zero, i.size, i.bytes)) = some (some (.agg #[.string ⟨#[]⟩, .string ⟨#[]⟩, .int .i64 0]), 3, 40) := by kernel_rfl
theorem blk_one (x : Blk) : ∀ u ∈ blkCell x, u.oneCell' = true := by
  intro u hu; simp [blkCell] at hu; rcases hu with rfl | rfl | rfl <;> rfl
/-- append(v, b) to a row of blocks of the call's own. -/
theorem append_blk (w : World) (base : Nat) (v : Value) (pre : List Blk) (hown : w.ownsRow base 34 3 v pre.length (gCells blkCell pre)) (x : Blk) (hbase : base ≤ w.heap.size) (hlen : pre.length ≤ 1000000) :
    ∃ v' w', (Builtin.append_ #[35, 35] 35 #[v, .slice (some ⟨w.heap.size, 0, none⟩) 1 1]).run Tryz.prog (w.alloc (.cells #[.string x.1, .string x.2.1, .int .i64 x.2.2] 34)) = .ok v' w' ∧
      w'.ownsRow base 34 3 v' (pre ++ [x]).length (gCells blkCell (pre ++ [x])) ∧ Below base w w' := by
  obtain ⟨v', w', hrun, h2, h3, _⟩ := append_one (P := Tryz.prog) (enc := blkCell) (k := 3) (fun _ => rfl) blk_one info_blk rfl (by decide) (by decide) Tryz.underlying35 w base v pre.length _ hown x hbase (by omega)
  refine ⟨v', w', hrun, ?_, (Below.refl base w).grown ((World.grownBy_alloc _ _ _).trans h3) hbase (own_block hown)⟩
  rw [gCells_snoc, List.length_append]
  simpa using h2
/-- What a good row's two sides are, as values and by how many runes. -/
theorem row_sides {r : List St} (h : r.all stGood = true) (hl : r.length ≤ 1000000) : ∃ (A B : ByteArray) (p q : Nat), (⟨(readA r).toArray⟩ : ByteArray) = A ∧ (⟨(readB r).toArray⟩ : ByteArray) = B ∧ (decRunes A.data.toList).length = p ∧ (decRunes B.data.toList).length = q ∧ A.size * 4 ≤ 140737488355328 ∧ B.size * 4 ≤ 140737488355328 ∧
    longB r = decide (3 < p ∨ 3 < q) ∧ (diffB r = true ↔ A ≠ B) ∧ blkOf r = (A, B, 1) := by
  obtain ⟨ea, eb, ia, ib, va, vb⟩ := row_texts h
  have rs := read_size r
  have hA : (decRunes (mkB (readA r)).data.toList).length = (stA r).length := by rw [mkB_data, decRunes, va]; simp [ia]
  have hB : (decRunes (mkB (readB r)).data.toList).length = (stB r).length := by rw [mkB_data, decRunes, vb]; simp [ib]
  refine ⟨mkB (readA r), mkB (readB r), (stA r).length, (stB r).length, rfl, rfl, hA, hB, by rw [Lib.size_eq, mkB_data]; omega, by rw [Lib.size_eq, mkB_data]; omega, rfl, ?_, rfl⟩
  rw [diffB, decide_eq_true_eq]
  constructor
  · exact fun h1 e => h1 ((row_differ h).1 (by rw [← mkB_data (readA r), e, mkB_data]))
  · exact fun h1 e => h1 (by rw [(row_differ h).2 e])

set_option maxRecDepth 100000 in
set_option maxHeartbeats 8000000 in
theorem refOf_ok (u : Value) (l : List St) (w : World) (hu : StRuns w u l) (hl : l.length ≤ 1000000) (hgood : l.all stGood = true) :
    Calls Tryz.prog 38 #[u] w fun e w' => ∃ v, e = .returned (.tuple #[v, .int .i64 0]) ∧ BRuns w' v (ofS l) ∧ Below w.heap.size w w' := by
  have cc := refCheck_any u l w hu
  rw [hgood] at cc
  simp only [if_true] at cc
  have hrg := rows_good hgood
  have hof : ofS l = selL (rowsP l) := by rw [ofS, if_pos hgood]; rfl
  rw [hof]
  clear hgood hof
  have hrl := fun r (h : r ∈ rowsP l) => row_len l r h
  have cr := fun (w : World) (hu : StRuns w u l) => refRows_any u l w hu hl
  have hnl := rowsP_len l
  obtain ⟨rs, hrs⟩ : ∃ rs, rowsP l = rs := ⟨_, rfl⟩
  simp only [hrs] at cr hrg hrl hnl ⊢
  obtain ⟨n, hn⟩ : ∃ n, rs.length = n := ⟨_, rfl⟩
  rw [hn] at hnl
  have HG := Lib.hid hrg; have HRL := Lib.hid hrl; have CR := Lib.hid cr; have HN := Lib.hid hn
  clear hrs hn hrg hrl cr
  have hu' := hu
  obtain ⟨Au, cu, rfl, _, _, _⟩ := hu'
  have HU := Lib.hid hu; clear hu
  have CC := Lib.hid cc; clear cc
  go_enter Tryz.func38, Tryz.ntmps38
  go_wp2_with fail
  refine CC.out.mono ?_
  rintro e w1 ⟨rfl, b1⟩
  have U1 := Lib.hid (HU.out.below b1)
  have B1 := Lib.hid b1; clear b1
  go_wp2_with fail
  refine (CR.out _ U1.out).mono ?_
  rintro e w2 ⟨rv, rfl, RR, B2⟩
  obtain ⟨Ar, cr, rfl, hcr, _⟩ := RR.out
  rw [HN.out] at RR ⊢
  unfold maxLen at hcr
  clear CC CR U1
  go_wp2
  go_loopg [5, 19] n (fun g s5 s19 wr => ∃ k : Nat, s19 = .int .i64 k ∧ k ≤ n ∧ n - k ≤ g ∧ Hid (wr.ownsRow w2.heap.size 34 3 s5 (selL (rs.take k)).length (gCells blkCell (selL (rs.take k)))) ∧ Hid (Below w2.heap.size w2 wr))
  case atStart => exact ⟨0, rfl, by omega, by omega, Lib.hid (World.ownsRow_nil _ _ _ _), Lib.hid (Below.refl _ _)⟩
  case round =>
    obtain ⟨k, rfl, hk, hg, HO, HB⟩ := hrel
    by_cases hlt : k < n
    · have hlt' : (k : Int) < (n : Int) := by omega
      obtain ⟨r, hr⟩ : ∃ r, rs[k]? = some r := ⟨_, List.getElem?_eq_getElem (by rw [HN.out]; exact hlt)⟩
      have hrm : r ∈ rs := List.mem_of_getElem? hr
      obtain ⟨b, v, rfl, hcv, hsv⟩ : ∃ b v, Ar = some ⟨b, 0, none⟩ ∧ wr.cell? ⟨b, k, none⟩ = some v ∧ StRuns wr v r := by
        obtain ⟨A', c', e, _, hx⟩ := RR.out.below HB.out
        rw [HN.out] at e hx
        obtain ⟨rfl, _, rfl⟩ := Value.slice.inj e
        obtain ⟨b, eA, hc⟩ := hx (by omega)
        obtain ⟨v, h1, h2⟩ := hc k r hr
        exact ⟨b, v, eA, h1, h2⟩
      have hrl := HRL.out r hrm
      have hrg := HG.out r hrm
      have c1 := refRead_any v r wr hsv (by omega)
      obtain ⟨A, B, p, q, hA, hB, hp, hq, sA, sB, hlong, hdiff, hblk⟩ := row_sides hrg (by omega)
      have c2 := fun w => refSize_any A w sA
      have c3 := fun w => refSize_any B w sB
      rw [hA, hB, show stErr r = 0 by rw [stErr, hrg]; rfl] at c1
      simp only [hp] at c2
      simp only [hq] at c3
      have HSE := Lib.hid (selL_take rs k r hr)
      have hsl : (selL (rs.take k)).length ≤ 1000000 := by
        unfold selL
        rw [List.length_map]
        have := List.length_filter_le selB (rs.take k)
        rw [List.length_take] at this
        omega
      obtain ⟨Av, nv, cv, rfl⟩ : ∃ A n c, v = .slice A n c := by obtain ⟨A, c, e, _⟩ := hsv; exact ⟨A, _, c, e⟩
      have C1 := Lib.hid c1; have C2 := Lib.hid c2; have C3 := Lib.hid c3
      have HLO := Lib.hid hlong; have HDI := Lib.hid hdiff; have HBK := Lib.hid hblk
      clear c1 c2 c3 hlong hdiff hblk hA hB hp hq hr hsv hrm hrg
      go_wp2_with fail
      refine C1.out.mono ?_
      rintro e w3 ⟨rfl, b3⟩
      have O3 := Lib.hid (own_below HO.out b3)
      have B3 := Lib.hid (HB.out.trans (b3.mono HB.out.size)); clear b3
      go_wp2_with fail
      refine (C2.out _).mono ?_
      rintro e w4 ⟨rfl, b4⟩
      have O4 := Lib.hid (own_below O3.out b4)
      have B4 := Lib.hid (B3.out.trans (b4.mono B3.out.size)); clear b4
      by_cases h1 : p ≤ 3
      · have i1 : (p : Int) ≤ 3 := by omega
        go_wp2_with fail
        refine (C3.out _).mono ?_
        rintro e w5 ⟨rfl, b5⟩
        have O5 := Lib.hid (own_below O4.out b5)
        have B5 := Lib.hid (B4.out.trans (b5.mono B4.out.size)); clear b5
        by_cases h2 : q ≤ 3
        · have i2 : (q : Int) ≤ 3 := by omega
          by_cases h3 : A = B
          · have hse : selB r = false := by
              unfold selB
              have : diffB r = false := by
                cases hd : diffB r with
                | false => rfl
                | true => exact absurd h3 (HDI.out.1 hd)
              rw [this, Bool.and_false]
            have HS2 : Hid (selL (rs.take (k + 1)) = selL (rs.take k)) := Lib.hid (by rw [HSE.out, hse]; simp)
            subst h3
            clear hse
            go_wp2
            go_roundg (n - (k + 1))
            case measure => omega
            case rel => exact ⟨k + 1, rfl, by omega, by omega, Lib.hid (by rw [HS2.out]; exact O5.out), B5⟩
          · have hse : selB r = true := by
              unfold selB
              rw [HLO.out, HDI.out.2 h3, Bool.and_true]
              simp; omega
            have HS2 : Hid (selL (rs.take (k + 1)) = selL (rs.take k) ++ [(A, B, 1)]) := Lib.hid (by rw [HSE.out, hse, HBK.out]; rfl)
            have s1 : (A.toList == B.toList) = false := beq_eq_false_iff_ne.2 (fun e => h3 (toList_ext e))
            obtain ⟨v', w6, hrun, hown, hb6⟩ := append_blk w5 w2.heap.size u5 (selL (rs.take k)) O5.out (A, B, 1) B5.out.size hsl
            have HRU := Lib.hid hrun; have HOW := Lib.hid hown
            have B6 := Lib.hid (B5.out.trans hb6)
            clear hrun hown hb6 hse
            go_wp2_with (at_builtin; refine wpList_append_run (.tmp 42) (.tmp 46) 35 _ _ _ _ HRU.out rfl rfl rfl rfl ?_)
            go_roundg (n - (k + 1))
            case measure => omega
            case rel => exact ⟨k + 1, rfl, by omega, by omega, Lib.hid (by rw [HS2.out]; exact HOW.out), B6⟩
        · have i2 : ¬ (q : Int) ≤ 3 := by omega
          have hse : selB r = false := by unfold selB; rw [HLO.out]; simp; intro h; omega
          have HS2 : Hid (selL (rs.take (k + 1)) = selL (rs.take k)) := Lib.hid (by rw [HSE.out, hse]; simp)
          clear hse
          go_wp2
          go_roundg (n - (k + 1))
          case measure => omega
          case rel => exact ⟨k + 1, rfl, by omega, by omega, Lib.hid (by rw [HS2.out]; exact O5.out), B5⟩
      · have i1 : ¬ (p : Int) ≤ 3 := by omega
        have hse : selB r = false := by unfold selB; rw [HLO.out]; simp; intro h; omega
        have HS2 : Hid (selL (rs.take (k + 1)) = selL (rs.take k)) := Lib.hid (by rw [HSE.out, hse]; simp)
        clear hse
        go_wp2
        go_roundg (n - (k + 1))
        case measure => omega
        case rel => exact ⟨k + 1, rfl, by omega, by omega, Lib.hid (by rw [HS2.out]; exact O4.out), B4⟩
    · obtain rfl : k = n := by omega
      have hR := GRuns.of_own (enc := blkCell) (k := 3) (fun _ => rfl) rfl HO.out
      rw [List.take_of_length_le (by rw [HN.out]; exact Nat.le_refl _)] at hR
      have HRR := Lib.hid hR; clear hR
      go_wp2
      go_ret2
      exact ⟨_, rfl, HRR.out, B1.out.trans ((B2.out.mono B1.out.size).trans (HB.out.mono (Nat.le_trans B1.out.size B2.out.size)))⟩
end Go.Proofs.YtnognphjndpgkaaGreatDoor

/- errataref05.Long, Of, Pair, at any steps. -/
namespace Go.Proofs.YtnognphjndpgkaaGreatDoor
open Go.RowKit Go.Shelf

set_option maxRecDepth 100000 in
set_option maxHeartbeats 4000000 in
theorem refOf_any (u : Value) (l : List St) (w : World) (hu : StRuns w u l) (hl : l.length ≤ 1000000) :
    Calls Tryz.prog 38 #[u] w fun e w' => ∃ v, e = .returned (.tuple #[v, .int .i64 (stErr l)]) ∧ BRuns w' v (ofS l) ∧ Below w.heap.size w w' := by
  cases hg : l.all stGood with
  | true =>
    rw [show stErr l = 0 by rw [stErr, hg]; rfl]
    exact refOf_ok u l w hu hl hg
  | false =>
    rw [show stErr l = 7 by rw [stErr, hg]; rfl, show ofS l = [] by rw [ofS, hg]; rfl]
    have cc := refCheck_any u l w hu
    rw [hg] at cc
    simp only [Bool.false_eq_true, if_false] at cc
    obtain ⟨Au, cu, rfl, _, _, _⟩ := hu
    go_enter Tryz.func38, Tryz.ntmps38
    go_wp2_with fail
    refine cc.mono ?_
    rintro e w1 ⟨rfl, b1⟩
    have B1 := Lib.hid b1; clear b1 cc
    go_wp2
    go_ret2
    exact ⟨_, rfl, GRuns.nil_ _ _ _, B1.out⟩
set_option maxRecDepth 100000 in
set_option maxHeartbeats 4000000 in
theorem refPair_any (s t : ByteArray) (w : World) (hs : s.size * 4 ≤ 140737488355328) (ht : t.size * 4 ≤ 140737488355328) :
    Calls Tryz.prog 22 #[.string s, .string t] w fun e w' => ∃ v, e = .returned (.tuple #[v, .int .i64 (tokErr2 s.data.toList t.data.toList)]) ∧ BRuns w' v (ofS (stepsS s.data.toList t.data.toList)) ∧ Below w.heap.size w w' := by
  have c1 := refSteps_any s t w hs ht
  by_cases hT : tokErr2 s.data.toList t.data.toList = 0
  · obtain ⟨_, _, f3, _, _, f6, _⟩ := steps_facts _ _ hT
    have c2 := fun (w : World) (u : Value) (hu : StRuns w u (stepsS s.data.toList t.data.toList)) => refOf_any u _ w hu (by omega)
    rw [hT] at c1 ⊢
    simp only [f3] at c2
    clear f3 f6 hT
    obtain ⟨L, hL⟩ : ∃ L, stepsS s.data.toList t.data.toList = L := ⟨_, rfl⟩
    simp only [hL] at c1 c2 ⊢
    clear hL
    have C1 := Lib.hid c1; have C2 := Lib.hid c2
    clear c1 c2
    go_enter Tryz.func22, Tryz.ntmps22
    go_wp2_with fail
    refine C1.out.mono ?_
    rintro e w1 ⟨v1, rfl, r1, b1⟩
    obtain ⟨A1, k1, rfl, _, _, _⟩ := id r1
    have R1 := Lib.hid r1; have B1 := Lib.hid b1
    clear r1 b1
    go_wp2_with fail
    refine (C2.out _ _ R1.out).mono ?_
    rintro e w2 ⟨v2, rfl, r2, b2⟩
    obtain ⟨A2, k2, rfl⟩ := r2.slice
    have R2 := Lib.hid r2; have B2 := Lib.hid (B1.out.trans (b2.mono B1.out.size))
    clear r2 b2
    go_wp2
    go_ret2
    exact ⟨_, rfl, R2.out, B2.out⟩
  · have hz : stepsS s.data.toList t.data.toList = [] := by rw [stepsS, if_neg hT]
    rw [hz] at c1 ⊢
    rw [show ofS [] = [] by rw [ofS, rowsP_nil]; rfl]
    obtain ⟨er, her⟩ : ∃ x, tokErr2 s.data.toList t.data.toList = x := ⟨_, rfl⟩
    rw [her] at c1 hT ⊢
    have b9 : (er != 0) = true := bne_iff_ne.2 hT
    clear her hz
    have C1 := Lib.hid c1; clear c1
    go_enter Tryz.func22, Tryz.ntmps22
    go_wp2_with fail
    refine C1.out.mono ?_
    rintro e w1 ⟨v1, rfl, r1, b1⟩
    obtain ⟨A1, k1, rfl, _, _, _⟩ := id r1
    have B1 := Lib.hid b1
    clear r1 b1
    go_wp2
    go_ret2
    exact ⟨_, rfl, GRuns.nil_ _ _ _, B1.out⟩
end Go.Proofs.YtnognphjndpgkaaGreatDoor

/- BlockSteps, BlockPairs, BlockChecks, walked over what block's functions answer. -/
namespace Go.Proofs.YtnognphjndpgkaaGreatDoor
open Go.RowKit Go.Shelf

/-- What block's functions answer, in every world. -/
def OfAt (l : List St) : Prop := ∀ w u, Okw w → StRuns w u l → Calls Tryz.prog 33 #[u] w fun e w' => ∃ v, e = .returned (.tuple #[v, .int .i64 (stErr l)]) ∧ BRuns w' v (ofS l) ∧ Below w.heap.size w w'
def PairAt (s t : ByteArray) : Prop := ∀ w, Okw w → Calls Tryz.prog 19 #[.string s, .string t] w fun e w' => ∃ v, e = .returned (.tuple #[v, .int .i64 (tokErr2 s.data.toList t.data.toList)]) ∧ BRuns w' v (ofS (stepsS s.data.toList t.data.toList)) ∧ Below w.heap.size w w'
def ChkAt (b : Blk) : Prop := ∀ w, Okw w → Calls Tryz.prog 16 #[.agg #[.string b.1, .string b.2.1, .int .i64 b.2.2]] w fun e w' => e = .returned (.int .i64 (chkS b)) ∧ Below w.heap.size w w'
def LessAt (a b : Blk) : Prop := ∀ w, Okw w → Calls Tryz.prog 44 #[.agg #[.string a.1, .string a.2.1, .int .i64 a.2.2], .agg #[.string b.1, .string b.2.1, .int .i64 b.2.2]] w fun e w' => e = .returned (.bool (lessB a b)) ∧ Below w.heap.size w w'

end Go.Proofs.YtnognphjndpgkaaGreatDoor

/- block.Pair: the blocks of two tokens, or why one of them is none; what block's functions answer, in every world; the examples of layer 5. -/
namespace Go.Proofs.YtnognphjndpgkaaGreatDoor
open Go.RowKit Go.Shelf

theorem of_at (l : List St) (hl : l.length ≤ 1000000) (hf : stFit l) : OfAt l := by
  intro w u h hu
  refine (of_own u l w h hu hl hf).mono ?_
  rintro e w' ⟨v, rfl, hrow, hb⟩
  exact ⟨v, rfl, GRuns.of_own blk_len rfl hrow, hb⟩
theorem chk_at (b : Blk) (h1 : b.1.size * 4 ≤ 140737488355328) (h2 : b.2.1.size * 4 ≤ 140737488355328) : ChkAt b := fun w h => chk_any b.1 b.2.1 b.2.2 w h h1 h2
theorem less_at (a b : Blk) : LessAt a b := fun w _ => less_any a.1 a.2.1 b.1 b.2.1 a.2.2 b.2.2 w

set_option maxRecDepth 100000 in
set_option maxHeartbeats 2000000 in
theorem pair_at (s t : ByteArray) (hs : s.size * 4 ≤ 140737488355328) (ht : t.size * 4 ≤ 140737488355328) : PairAt s t := by
  intro w h
  have c := steps_any s t hs ht w h
  by_cases h2 : tokErr2 s.data.toList t.data.toList = 0
  · obtain ⟨_, _, f3, _, f5, f6, _⟩ := steps_facts s.data.toList t.data.toList h2
    have cO := of_at (stepsS s.data.toList t.data.toList) (by omega) f5
    unfold OfAt at cO
    rw [f3] at cO
    rw [h2] at c ⊢
    clear f3 f5 f6 h2
    obtain ⟨l, hl⟩ : ∃ l, stepsS s.data.toList t.data.toList = l := ⟨_, rfl⟩
    rw [hl] at c cO ⊢
    clear hl
    obtain ⟨X, hX⟩ : ∃ X, ofS l = X := ⟨_, rfl⟩
    rw [hX] at cO ⊢
    clear hX
    have C := Lib.hid c; have CO := Lib.hid cO
    clear c cO
    go_enter Tryz.func19, Tryz.ntmps19
    go_wp2_with fail
    refine C.out.mono ?_
    rintro e w1 ⟨v, rfl, r1, b1⟩
    have R1 := Lib.hid r1; have B1 := Lib.hid b1
    obtain ⟨A, cc, rfl, _⟩ := r1
    clear b1
    go_wp2_with fail
    refine (CO.out _ _ (h.below B1.out) R1.out).mono ?_
    rintro e w2 ⟨v2, rfl, r2, b2⟩
    have R2 := Lib.hid r2
    have B2 := Lib.hid (B1.out.trans (b2.mono B1.out.size))
    obtain ⟨A2, c2, rfl⟩ := r2.slice
    clear b2 r2
    go_wp2
    go_ret2
    exact ⟨_, rfl, R2.out, B2.out⟩
  · have e3 : ofS (stepsS s.data.toList t.data.toList) = [] := by rw [stepsS, if_neg h2]; simp [ofS, rowsP_nil]
    rw [e3]
    clear e3
    obtain ⟨er, he⟩ : ∃ er, tokErr2 s.data.toList t.data.toList = er := ⟨_, rfl⟩
    rw [he] at h2 c ⊢
    clear he
    have hz : (er == 0) = false := by simpa using h2
    have C := Lib.hid c; clear c
    go_enter Tryz.func19, Tryz.ntmps19
    go_wp2_with fail
    refine C.out.mono ?_
    rintro e w1 ⟨v, rfl, r1, b1⟩
    have B1 := Lib.hid b1
    obtain ⟨A, cc, rfl, _⟩ := r1
    clear b1
    go_wp2
    go_ret2
    exact ⟨_, rfl, GRuns.nil_ _ _ _, B1.out⟩

theorem ex5 : tokErr2 [97, 114, 110] [97, 109] = 0 ∧ ofS (stepsS [97, 114, 110] [97, 109]) = [(⟨#[114, 110]⟩, ⟨#[109]⟩, 1)] := by
  have e1 : tokErr [97, 114, 110] = 0 := by decide +kernel
  have e2 : tokErr [97, 109] = 0 := by decide +kernel
  have e3 : tokErr2 [97, 114, 110] [97, 109] = 0 := tokErr2_of e1 e2
  have r1 : tokRunes [97, 114, 110] = [97, 114, 110] := by decide +kernel
  have r2 : tokRunes [97, 109] = [97, 109] := by decide +kernel
  refine ⟨e3, ?_⟩
  have l1 : levR [110, 114, 97] [109, 97] = 2 := by simp [levR_cons, levR_nil, levR_nil']
  have l2 : levR [114, 97] [97] = 1 := by simp [levR_cons, levR_nil, levR_nil']
  have l3 : levR [97] [97] = 0 := by simp [levR_cons, levR_nil, levR_nil']
  have l4 : levR [97] [] = 1 := by simp [levR_nil']
  have p : (pathR [110, 114, 97] [109, 97]).reverse = [(0, 97, 97), (2, 114, 0), (1, 110, 109)] := by
    rw [pathR_sub (by decide) (by rw [l1, l2]), pathR, if_neg (by decide), if_neg (by rw [l2, l4]; decide), if_pos (by rw [l2, l3]), pathR_same, pathR]
    rfl
  have hs : stepsS [97, 114, 110] [97, 109] = [(0, 97, 97), (2, 114, 0), (1, 110, 109)] := by
    rw [stepsS, if_pos e3, r1, r2]; exact p
  rw [hs]
  have hr : rowsP [((0 : Int), (97 : Int), (97 : Int)), (2, 114, 0), (1, 110, 109)] = [[(2, 114, 0), (1, 110, 109)]] := by
    rw [rowsP_match rfl, rowsP_one (by simp) (by simp)]
  rw [ofS, if_pos (by decide +kernel), hr]
  have hA : readA [(2, 114, 0), (1, 110, 109)] = [114, 110] := by decide +kernel
  have hB : readB [(2, 114, 0), (1, 110, 109)] = [109] := by decide +kernel
  have hl : longB [(2, 114, 0), (1, 110, 109)] = false := by decide +kernel
  have hd : diffB [(2, 114, 0), (1, 110, 109)] = true := by decide +kernel
  simp [hl, hd, blkOf, hA, hB, mkB]

end Go.Proofs.YtnognphjndpgkaaGreatDoor

/- count.each, sum, Check, Total: what each answers. -/
namespace Go.Proofs.YtnognphjndpgkaaGreatDoor
open Go.RowKit Go.Shelf
set_option linter.unusedSimpArgs false
set_option linter.unusedVariables false

/-- Blocks whose texts are no longer than so much. -/
def szL (l : List Blk) : Prop := ∀ b ∈ l, b.1.size ≤ 2000000 ∧ b.2.1.size ≤ 2000000
theorem szL_of {l : List Blk} (h : szB l) : szL l := fun b hb => by have := h b hb; omega
theorem sumN_take_le {l : List Blk} (h : posN l) (k : Nat) : sumN (l.take k) ≤ sumN l := by
  have e : sumN l = sumN (l.take k) + sumN (l.drop k) := by rw [← sumN_append, List.take_append_drop]
  have := sumN_nonneg (l := l.drop k) (fun b hb => h b (List.mem_of_mem_drop hb))
  omega

set_option maxRecDepth 100000 in
set_option maxHeartbeats 8000000 in
theorem each_any (u : Value) (l : List Blk) (w : World) (hO : Okw w) (hu : BRuns w u l) (hl : l.length ≤ 2000000) (hz : szL l) :
    Calls Tryz.prog 43 #[u] w fun e w' => e = .returned (.int .i64 (chkAll l)) ∧ Below w.heap.size w w' := by
  obtain ⟨A, c, e⟩ := hu.slice
  subst e
  have HU := Lib.hid hu; clear hu
  have HOK := Lib.hid hO; clear hO
  obtain ⟨n, hn⟩ : ∃ n, l.length = n := ⟨_, rfl⟩
  obtain ⟨res, hres⟩ : ∃ r, chkAll l = r := ⟨_, rfl⟩
  rw [hres]
  have HT := Lib.hid hres; clear hres
  rw [hn] at hl HU ⊢
  have HN := Lib.hid hn; clear hn
  have HZ := Lib.hid hz; clear hz
  have C5 : Hid (∀ b : Blk, b.1.size ≤ 2000000 → b.2.1.size ≤ 2000000 → ChkAt b) := Lib.hid (fun b h1 h2 => chk_at b (by omega) (by omega))
  go_enter Tryz.func43, Tryz.ntmps43
  go_wp2
  go_loopw [8] (fun s8 wr => ∃ k : Nat, k ≤ n ∧ s8 = .int .i64 k ∧ Hid (chkAll (l.take k) = 0) ∧ Hid (Below w.heap.size w wr)) (fun s8 _ => n - (RowKit.intOf s8).toNat)
  case atStart => exact ⟨0, Nat.zero_le _, rfl, Lib.hid rfl, Lib.hid (Below.refl _ _)⟩
  case round =>
    obtain ⟨k, hkn, rfl, HC, BW⟩ := hrel
    by_cases hk : k < n
    · have k1 : (k : Int) < (n : Int) := by omega
      obtain ⟨⟨p1, p2, p3⟩, hp⟩ : ∃ p, l[k]? = some p := ⟨_, List.getElem?_eq_getElem (by rw [HN.out]; exact hk)⟩
      obtain ⟨b, o, rfl, _, hc⟩ := (HU.out.below BW.out).cells HN.out (by omega)
      obtain ⟨g0, g1, g2⟩ := blk_cells hc hp
      simp only at g0 g1 g2
      have hz1 := HZ.out _ (List.mem_of_getElem? hp)
      have hch := chkAll_take k _ hp HC.out
      simp only at hz1
      obtain ⟨er, her⟩ : ∃ z, chkS (p1, p2, p3) = z := ⟨_, rfl⟩
      rw [her] at hch
      have HCH := Lib.hid hch
      have hal : Hid (Below w.heap.size w (wr.alloc (.cells #[.string p1, .string p2, .int .i64 p3] 34))) := Lib.hid (BW.out.alloc BW.out.size _)
      have c5 := C5.out (p1, p2, p3) hz1.1 hz1.2 (wr.alloc (.cells #[.string p1, .string p2, .int .i64 p3] 34)) (HOK.out.below hal.out)
      simp only [her] at c5
      have CC := Lib.hid c5
      clear hc hp hch c5 her
      go_wp2_with fail
      refine CC.out.mono ?_
      rintro e w5 ⟨rfl, b5⟩
      have B5 : Hid (Below w.heap.size w w5) := Lib.hid (hal.out.trans (b5.mono hal.out.size))
      clear b5
      by_cases h0 : er = 0
      · subst h0
        go_wp2
        exact ⟨⟨k + 1, by omega, by go_num, Lib.hid (HCH.out.1 (by first | rfl | trivial)), B5⟩, by simp [RowKit.intOf]; omega⟩
      · have h0' : (er == 0) = false := by simpa using h0
        have hr : Hid (res = er) := Lib.hid (by rw [← HT.out]; exact HCH.out.2 h0)
        go_wp2
        go_ret
        exact ⟨by rw [hr.out]; rfl, B5.out⟩
    · obtain rfl : k = n := by omega
      have hr : Hid (res = 0) := Lib.hid (by have := HC.out; rw [← HN.out, List.take_length] at this; rw [← HT.out]; exact this)
      clear HC
      go_wp2
      go_ret
      exact ⟨by rw [hr.out]; rfl, BW.out⟩

set_option maxRecDepth 100000 in
set_option maxHeartbeats 8000000 in
/-- The Ns together, where a table may have so many. -/
theorem sum_any (u : Value) (l : List Blk) (w : World) (hu : BRuns w u l) (hl : l.length ≤ 2000000) (hok : okN l) :
    Calls Tryz.prog 28 #[u] w fun e w' => ((sumN l ≤ 1073741824 ∧ e = .returned (.tuple #[.int .i64 (sumN l), .bool true])) ∨ (1073741824 < sumN l ∧ e = .returned (.tuple #[.int .i64 0, .bool false]))) ∧ Below w.heap.size w w' := by
  obtain ⟨A, c, e⟩ := hu.slice
  subst e
  have HU := Lib.hid hu; clear hu
  have hle := sumN_take_le (l := l) (fun b hb => (hok b hb).1)
  have h00 : ∀ k, 0 ≤ sumN (l.take k) := fun k => sumN_nonneg (fun b hb => (hok b (List.mem_of_mem_take hb)).1)
  obtain ⟨tot, htot⟩ : ∃ t, sumN l = t := ⟨_, rfl⟩
  have hfin : sumN (l.take l.length) = tot := by rw [List.take_length]; exact htot
  simp only [htot] at hle
  rw [htot]
  clear htot
  obtain ⟨n, hn⟩ : ∃ n, l.length = n := ⟨_, rfl⟩
  rw [hn] at hl HU hfin ⊢
  have HN := Lib.hid hn; clear hn
  obtain ⟨sm, hsm⟩ : ∃ f, f = fun k => sumN (l.take k) := ⟨_, rfl⟩
  have hst : ∀ k x, l[k]? = some x → sm (k + 1) = sm k + x.2.2 := fun k x hx => by rw [hsm]; exact sumN_take k x hx
  have hb' : ∀ k, 0 ≤ sm k ∧ sm k ≤ tot := fun k => by rw [hsm]; exact ⟨h00 k, hle k⟩
  have h0 : sm 0 = 0 := by rw [hsm]; simp [sumN]
  have hgo : sm n = tot := by rw [hsm]; exact hfin
  clear hfin hle h00 hsm
  have ST := Lib.hid hst; have BD := Lib.hid hb'; have OK := Lib.hid hok; have HGO := Lib.hid hgo
  clear hst hb' hok hgo
  go_enter Tryz.func28, Tryz.ntmps28
  go_wp2
  go_loopw [4, 9] (fun s4 s9 wr => ∃ k : Nat, k ≤ n ∧ s9 = .int .i64 k ∧ s4 = .int .i64 (sm k) ∧ sm k ≤ 1073741824 ∧ Hid (Below w.heap.size w wr)) (fun _ s9 _ => n - (RowKit.intOf s9).toNat)
  case atStart => exact ⟨0, Nat.zero_le _, rfl, by rw [h0], by rw [h0]; decide, Lib.hid (Below.refl _ _)⟩
  case round =>
    obtain ⟨k, hkn, rfl, rfl, hs, BW⟩ := hrel
    have bk := BD.out k
    obtain ⟨s, es⟩ : ∃ s, sm k = s := ⟨_, rfl⟩
    rw [es] at hs bk ⊢
    have HES := Lib.hid es; clear es
    by_cases hk : k < n
    · have k1 : (k : Int) < (n : Int) := by omega
      obtain ⟨⟨p1, p2, p3⟩, hp⟩ : ∃ p, l[k]? = some p := ⟨_, List.getElem?_eq_getElem (by rw [HN.out]; exact hk)⟩
      obtain ⟨b, o, rfl, _, hc⟩ := (HU.out.below BW.out).cells HN.out (by omega)
      obtain ⟨g0, g1, g2⟩ := blk_cells hc hp
      simp only at g0 g1 g2
      have hs1 := ST.out k _ hp
      have hN3 := OK.out _ (List.mem_of_getElem? hp)
      have bk1 := BD.out (k + 1)
      simp only at hs1 hN3
      rw [HES.out] at hs1
      have HS1 := Lib.hid hs1
      rw [hs1] at bk1
      have hal : Hid (Below w.heap.size w (wr.alloc (.cells #[.string p1, .string p2, .int .i64 p3] 34))) := Lib.hid (BW.out.alloc BW.out.size _)
      have hwr : IntKind.i64.wrap (1073741824 - s) = 1073741824 - s := by rw [IntKind.wrap_i64]; omega
      have hwr2 : IntKind.i64.wrap (s + p3) = s + p3 := by rw [IntKind.wrap_i64]; omega
      clear hc hp hs1
      by_cases hg : 1073741824 - s < p3
      · have BK := Lib.hid bk1; clear bk1
        go_wp2
        go_ret2
        exact ⟨.inr ⟨by have := BK.out; omega, rfl⟩, hal.out⟩
      · have HG := Lib.hid hg
        clear bk1
        go_wp2
        exact ⟨⟨k + 1, by omega, by go_num, by rw [HS1.out], by rw [HS1.out]; omega, hal⟩, by simp [RowKit.intOf]; omega⟩
    · obtain rfl : k = n := by omega
      have he : Hid (s = tot) := Lib.hid (by rw [← HES.out]; exact HGO.out)
      go_wp2
      go_ret2
      exact ⟨.inl ⟨by rw [← he.out]; exact hs, by rw [← he.out]; rfl⟩, BW.out⟩

set_option maxRecDepth 100000 in
set_option maxHeartbeats 8000000 in
theorem check6_any (u : Value) (l : List Blk) (w : World) (hO : Okw w) (hu : BRuns w u l) (hl : l.length ≤ 2000000) (hz : szL l) :
    Calls Tryz.prog 27 #[u] w fun e w' => e = .returned (.int .i64 (chkT l)) ∧ Below w.heap.size w w' := by
  obtain ⟨A, c, e⟩ := hu.slice
  subst e
  have ce := fun w hO hu => each_any (.slice A l.length c) l w hO hu hl hz
  have cs := fun w hu hok => sum_any (.slice A l.length c) l w hu hl hok
  have HU := Lib.hid hu; clear hu
  have HOK := Lib.hid hO; clear hO
  obtain ⟨n, hn⟩ : ∃ n, l.length = n := ⟨_, rfl⟩
  have hT : chkT l = if chkAll l = 0 then (if ordB l then (if 4096 < n ∨ 1073741824 < sumN l then 6 else 0) else 7) else chkAll l := by rw [chkT, hn]
  obtain ⟨res, hres⟩ : ∃ r, chkT l = r := ⟨_, rfl⟩
  obtain ⟨ea, hea⟩ : ∃ r, chkAll l = r := ⟨_, rfl⟩
  obtain ⟨tot, htot⟩ : ∃ r, sumN l = r := ⟨_, rfl⟩
  have HK : Hid (ea = 0 → okN l) := Lib.hid (fun h => okN_of (by rw [hea]; exact h))
  rw [hres] at hT ⊢
  simp only [hea, hn] at ce
  simp only [htot, hn] at cs
  rw [hea, htot] at hT
  have HT := Lib.hid hT; clear hT hres hea htot
  rw [hn] at hl HU ⊢
  have HN := Lib.hid hn; clear hn
  have CE := Lib.hid ce; have CS := Lib.hid cs; clear ce cs hz
  have CL := Lib.hid less_any
  go_enter Tryz.func27, Tryz.ntmps27
  go_wp2_with fail
  refine (CE.out _ HOK.out HU.out).mono ?_
  rintro e w1 ⟨rfl, b1⟩
  have B1 := Lib.hid b1; clear b1
  by_cases h0 : ea = 0
  · subst h0
    go_wp2
    go_loopw [4] (fun s4 wr => ∃ j : Nat, 1 ≤ j ∧ (j ≤ n ∨ j = 1) ∧ s4 = .int .i64 j ∧ Hid (ordB (l.take j) = true) ∧ Hid (Below w.heap.size w wr)) (fun s4 _ => n - (RowKit.intOf s4).toNat)
    case atStart => exact ⟨1, Nat.le_refl _, .inr rfl, rfl, Lib.hid (ordB_one l), B1⟩
    case round =>
      obtain ⟨j, hj1, hjn, rfl, HO, BW2⟩ := hrel
      by_cases hj : j < n
      · have j1 : (j : Int) < (n : Int) := by omega
        obtain ⟨i, hi⟩ : ∃ i : Nat, (j : Int) - 1 = (i : Int) := ⟨j - 1, by omega⟩
        have ei : j = i + 1 := by omega
        have EI := Lib.hid ei
        obtain ⟨⟨y1, y2, y3⟩, hy⟩ : ∃ p, l[i]? = some p := ⟨_, List.getElem?_eq_getElem (by rw [HN.out]; omega)⟩
        obtain ⟨⟨x1, x2, x3⟩, hx⟩ : ∃ p, l[j]? = some p := ⟨_, List.getElem?_eq_getElem (by rw [HN.out]; omega)⟩
        have RW := Lib.hid (HU.out.below BW2.out)
        obtain ⟨b, o, rfl, hblt, hc⟩ := RW.out.cells HN.out (by omega)
        obtain ⟨g0, g1, g2⟩ := blk_cells hc hy
        obtain ⟨g3, g4, g5⟩ := blk_cells hc hx
        simp only at g0 g1 g2 g3 g4 g5
        have hor := ordB_take i (y1, y2, y3) (x1, x2, x3) hy (by rw [← ei]; exact hx) (by rw [← ei]; exact HO.out)
        have c5 := fun w => CL.out y1 y2 x1 x2 y3 x3 w
        obtain ⟨le, hle⟩ : ∃ z, lessB (y1, y2, y3) (x1, x2, x3) = z := ⟨_, rfl⟩
        simp only [hle] at c5 hor
        have HOR := Lib.hid hor; have C := Lib.hid c5
        clear hc hy hx hor c5 hle ei HO
        have i0 : (0 : Int) < (j : Int) := by omega
        have i1 : (i : Int) < (n : Int) := by omega
        have hwr : IntKind.i64.wrap ((j : Int) - 1) = (i : Int) := by rw [IntKind.wrap_i64]; omega
        have hwi : IntKind.i64.wrap (i : Int) = (i : Int) := by rw [IntKind.wrap_i64]; omega
        have i2 : (0 : Int) ≤ (i : Int) := by omega
        have KD : Hid (KRow w b (o + i * 3) (o + j * 3) (y1, y2, y3) (x1, x2, x3) wr.drew) := Lib.hid ⟨g0, g1, g2, g3, g4, g5, hblt, BW2.out.drew⟩
        go_wp2
        go_region_held3 (fun w' => w'.cell? ⟨b, o + i * 3, none⟩ = some (.string y1) ∧ w'.cell? ⟨b, o + i * 3 + 1, none⟩ = some (.string y2) ∧ w'.cell? ⟨b, o + i * 3 + 2, none⟩ = some (.int .i64 y3) ∧ w'.cell? ⟨b, o + j * 3, none⟩ = some (.string x1) ∧ w'.cell? ⟨b, o + j * 3 + 1, none⟩ = some (.string x2) ∧ w'.cell? ⟨b, o + j * 3 + 2, none⟩ = some (.int .i64 x3) ∧ Hid (KRow w b (o + i * 3) (o + j * 3) (y1, y2, y3) (x1, x2, x3) w'))
          (first | exact ⟨g0, g1, g2, g3, g4, g5, KD⟩ | exact ⟨HKn.out.a0, HKn.out.a1, HKn.out.a2, HKn.out.b0, HKn.out.b1, HKn.out.b2, HKn⟩ | go_keep)
          (first
            | (go_at_call 44; refine (C.out _).mono ?_; rintro e w4 ⟨rfl, hb4⟩; have HKn := Lib.hid ((by assumption : Hid (KRow w b (o + i * 3) (o + j * 3) (y1, y2, y3) (x1, x2, x3) _)).out.step hb4); clear hb4))
        rename_i hHeld
        clear hHeld
        have B4 : Hid (Below w.heap.size w w4) := Lib.hid HKn.out.bel
        cases le
        · have hr : Hid (res = 7) := Lib.hid (by rw [HT.out, if_pos (by first | rfl | trivial), if_neg (by rw [HOR.out.2 rfl]; simp)])
          go_wp2
          go_ret
          exact ⟨by rw [hr.out]; rfl, B4.out⟩
        · go_wp2
          exact ⟨⟨j + 1, by omega, by omega, by go_num, Lib.hid (by have := HOR.out.1 rfl; rwa [← EI.out] at this), B4⟩, by simp [RowKit.intOf]; omega⟩
      · have hj' : ¬ (j : Int) < (n : Int) := by omega
        have HO0 : Hid (ordB l = true) := Lib.hid (by have := HO.out; rwa [List.take_of_length_le (by rw [HN.out]; omega)] at this)
        clear HO B1
        have U2 := Lib.hid (HU.out.below BW2.out)
        go_wp2_with fail
        refine (CS.out _ U2.out (HK.out (by first | rfl | trivial))).mono ?_
        rintro e w3 ⟨hc3, b3⟩
        have B3 : Hid (Below w.heap.size w w3) := Lib.hid (BW2.out.trans (b3.mono BW2.out.size))
        clear b3
        rcases hc3 with ⟨ht, rfl⟩ | ⟨ht, rfl⟩
        · by_cases hbig : 4096 < n
          · have hb1 : (4096 : Int) < (n : Int) := by omega
            have hr : Hid (res = 6) := Lib.hid (by rw [HT.out, if_pos (by first | rfl | trivial), if_pos HO0.out, if_pos (.inl hbig)])
            go_wp2
            go_ret
            exact ⟨by rw [hr.out]; rfl, B3.out⟩
          · have hb1 : ¬ (4096 : Int) < (n : Int) := by omega
            have hr : Hid (res = 0) := Lib.hid (by rw [HT.out, if_pos (by first | rfl | trivial), if_pos HO0.out, if_neg (by omega)])
            go_wp2
            go_ret
            exact ⟨by rw [hr.out]; rfl, B3.out⟩
        · have hr : Hid (res = 6) := Lib.hid (by rw [HT.out, if_pos (by first | rfl | trivial), if_pos HO0.out, if_pos (.inr ht)])
          go_wp2
          go_ret
          exact ⟨by rw [hr.out]; rfl, B3.out⟩
  · have h0' : (ea == 0) = false := by simpa using h0
    have hr : Hid (res = ea) := Lib.hid (by rw [HT.out, if_neg h0])
    go_wp2
    go_ret
    exact ⟨by rw [hr.out]; rfl, B1.out⟩

set_option maxRecDepth 100000 in
set_option maxHeartbeats 4000000 in
theorem total_any (u : Value) (l : List Blk) (w : World) (hO : Okw w) (hu : BRuns w u l) (hl : l.length ≤ 2000000) (hz : szL l) :
    Calls Tryz.prog 13 #[u] w fun e w' => e = .returned (.tuple #[.int .i64 (totS l), .int .i64 (chkT l)]) ∧ Below w.heap.size w w' := by
  obtain ⟨A, c, e⟩ := hu.slice
  subst e
  have ce := fun w hO hu => check6_any (.slice A l.length c) l w hO hu hl hz
  have cs := fun w hu hok => sum_any (.slice A l.length c) l w hu hl hok
  have HU := Lib.hid hu; clear hu
  have HOK := Lib.hid hO; clear hO
  have hT : totS l = if chkT l = 0 then sumN l else 0 := rfl
  obtain ⟨res, hres⟩ : ∃ r, totS l = r := ⟨_, rfl⟩
  obtain ⟨ea, hea⟩ : ∃ r, chkT l = r := ⟨_, rfl⟩
  obtain ⟨tot, htot⟩ : ∃ r, sumN l = r := ⟨_, rfl⟩
  have HK : Hid (ea = 0 → okN l ∧ tot ≤ 1073741824) := Lib.hid (fun h => by
    have := chkT_facts (l := l) (by rw [hea]; exact h)
    exact ⟨okN_of this.1, by rw [← htot]; exact this.2.2.2⟩)
  rw [hres] at hT ⊢
  rw [hea] at hT ⊢
  rw [htot] at hT
  simp only [hea] at ce
  simp only [htot] at cs
  have HT := Lib.hid hT; clear hT hres hea htot
  obtain ⟨n, hn⟩ : ∃ n, l.length = n := ⟨_, rfl⟩
  simp only [hn] at ce cs
  rw [hn] at hl HU ⊢
  have CE := Lib.hid ce; have CS := Lib.hid cs; clear ce cs hz hn
  go_enter Tryz.func13, Tryz.ntmps13
  go_wp2_with fail
  refine (CE.out _ HOK.out HU.out).mono ?_
  rintro e w1 ⟨rfl, b1⟩
  have U1 := Lib.hid (HU.out.below b1)
  have B1 := Lib.hid b1; clear b1
  by_cases h0 : ea = 0
  · subst h0
    have hk := HK.out (by first | rfl | trivial)
    have HK1 := Lib.hid hk.1
    have hk2 := hk.2
    clear hk
    go_wp2_with fail
    refine (CS.out _ U1.out HK1.out).mono ?_
    rintro e w3 ⟨hc3, b3⟩
    have B3 : Hid (Below w.heap.size w w3) := Lib.hid (B1.out.trans (b3.mono B1.out.size))
    clear b3
    rcases hc3 with ⟨ht, rfl⟩ | ⟨ht, rfl⟩
    · have hr : Hid (res = tot) := Lib.hid (by rw [HT.out, if_pos (by first | rfl | trivial)])
      go_wp2
      go_ret2
      exact ⟨by rw [hr.out]; rfl, B3.out⟩
    · exact absurd ht (by omega)
  · have h0' : (ea == 0) = false := by simpa using h0
    have hr : Hid (res = 0) := Lib.hid (by rw [HT.out, if_neg h0])
    go_wp2
    go_ret2
    exact ⟨by rw [hr.out]; rfl, B1.out⟩
end Go.Proofs.YtnognphjndpgkaaGreatDoor

/- append(v, u...) onto a row of the call's own, for rows of any structs. -/
namespace Go.Proofs.YtnognphjndpgkaaGreatDoor
open Go.RowKit

theorem append_many {P : Program} {α : Type} {enc : α → List Value} {k bytes : Nat} {tS tE : TypeId} {z : Value} (hk : ∀ x, (enc x).length = k) (h1 : ∀ x, ∀ u ∈ enc x, u.oneCell' = true) (hinfo : (P.info? tE).map (fun i => (i.zero, i.size, i.bytes)) = some (some z, k, bytes)) (hzl : z.cells.size = k) (hk0 : 0 < bytes) (hk1 : 0 < k)
    (hU : P.underlying tS = some (.slice tE)) (w : World) (base : Nat) (v : Value) (n : Nat) (xs : List Value) (hown : w.ownsRow base tE k v n xs) (u : Value) (ys : List α) (hu : GRuns enc k w u ys) (hbase : base ≤ w.heap.size) (hlen : (n + ys.length) * bytes ≤ 140737488355328) :
    ∃ v' w', (Builtin.append_ #[tS, tS] tS #[v, u]).run P w = .ok v' w' ∧ w'.ownsRow base tE k v' (n + ys.length) (xs ++ gCells enc ys) ∧
      w.grownBy w' v.ownBlock ∧ (v'.ownBlock = v.ownBlock ∨ v'.ownBlock = some w.heap.size) := by
  obtain ⟨i0, hi, hz0, hz1, hz2⟩ := info_parts hinfo
  obtain ⟨A, c, rfl, hxc, ⟨hxm, hc0⟩, hxx⟩ := hu
  cases A with
  | none =>
    obtain rfl := hc0 rfl
    have h0 : ys = [] := List.eq_nil_of_length_eq_zero (by omega)
    subst h0
    exact ⟨v, w, run_append_owned_none (P := P) (w := w) base tS tS tE i0 k hU hi v n xs hown, by simpa [gCells] using hown, World.grownBy.refl w _, .inl rfl⟩
  | some ad =>
    have hcells : ∀ j u, (gCells enc ys)[j]? = some u → w.cell? (ad.add j) = some u := by
      intro j u hj
      have hjl : j < (gCells enc ys).length := (List.getElem?_eq_some_iff.1 hj).1
      rw [gCells_len hk] at hjl
      have hq : j / k < ys.length := (Nat.div_lt_iff_lt_mul hk1).2 hjl
      obtain ⟨b, o, e, _, hc⟩ := hxx (Nat.lt_of_le_of_lt (Nat.zero_le _) hq)
      have e := Option.some.inj e
      subst e
      obtain ⟨x, hx⟩ : ∃ x, ys[j / k]? = some x := ⟨_, List.getElem?_eq_getElem hq⟩
      have h3 := gCells_at hk ys (j / k) (j % k) x hx (Nat.mod_lt _ hk1)
      have hdm : j / k * k + j % k = j := by rw [Nat.mul_comm]; exact Nat.div_add_mod j k
      rw [hdm, hj] at h3
      have h4 := hc (j / k) x hx (j % k) u h3.symm
      have ea : (⟨b, o, none⟩ : Addr).add j = ⟨b, o + j / k * k + j % k, none⟩ := by rw [Nat.add_assoc, hdm]; unfold Addr.add; simp <;> omega
      rw [ea]; exact h4
    have hone : ∀ u ∈ gCells enc ys, u.oneCell' = true := by
      intro u hu
      obtain ⟨p, _, hp⟩ := List.mem_flatMap.1 hu
      exact h1 p u hp
    obtain ⟨v', w', hrun, h2, h3, _, h5⟩ := run_append_own_at (P := P) w base tS tS tE i0 z k bytes hU hi hz0 hz1 hz2 hzl hk1 v n xs hown ad ys.length c (gCells enc ys) (gCells_len hk ys) hcells hone
      (by have : n + ys.length ≤ (n + ys.length) * bytes := Nat.le_mul_of_pos_right _ hk0; unfold maxLen; omega) hlen hbase
    exact ⟨v', w', hrun, h2, h3, h5⟩
end Go.Proofs.YtnognphjndpgkaaGreatDoor

/- A block more among blocks in order, by its place, plain; parts of a slice of blocks. -/
namespace Go.Proofs.YtnognphjndpgkaaGreatDoor
open Go.RowKit Go.Shelf

/-- Where a block comes: behind all that stand ahead of it. -/
theorem ins_at (b : Blk) (out : List Blk) (k : Nat) (h1 : ∀ j y, j < k → out[j]? = some y → lessB y b = true) (h2 : k ≤ out.length) (h3 : ∀ y, out[k]? = some y → lessB y b = false) :
    (∀ x, out[k]? = some x → sameS x b → insB b out = out.set k (x.1, x.2.1, x.2.2 + b.2.2)) ∧ ((∀ x, out[k]? = some x → ¬ sameS x b) → insB b out = out.take k ++ [b] ++ out.drop k) := by
  induction out generalizing k with
  | nil =>
    obtain rfl : k = 0 := by simpa using h2
    refine ⟨fun x hx => by simp at hx, fun _ => by simp [insB]⟩
  | cons a out ih =>
    cases k with
    | zero =>
      have ha := h3 a (by simp)
      have ha' : ¬ lessB a b = true := by rw [ha]; simp
      refine ⟨fun x hx hs => ?_, fun hn => ?_⟩
      · obtain rfl : a = x := by simpa using hx
        rw [insB, if_neg ha', if_pos hs]; rfl
      · rw [insB, if_neg ha', if_neg (hn a (by simp))]; rfl
    | succ k =>
      have ha := h1 0 a (by omega) (by simp)
      obtain ⟨i1, i2⟩ := ih k (fun j y hj hy => h1 (j + 1) y (by omega) (by simpa using hy)) (by simpa using h2) (fun y hy => h3 y (by simpa using hy))
      refine ⟨fun x hx hs => ?_, fun hn => ?_⟩
      · rw [insB, if_pos ha, i1 x (by simpa using hx) hs]; rfl
      · rw [insB, if_pos ha, i2 (fun x hx => hn x (by simpa using hx))]; simp
/-- A cell of a row of blocks turned. -/
theorem gCells_setN (out : List Blk) (k : Nat) (x : Blk) (v : Int) (h : out[k]? = some x) : (gCells blkCell out).set (k * 3 + 2) (.int .i64 v) = gCells blkCell (out.set k (x.1, x.2.1, v)) := by
  induction out generalizing k with
  | nil => simp at h
  | cons a out ih =>
    cases k with
    | zero =>
      obtain rfl : a = x := by simpa using h
      rfl
    | succ k =>
      have := ih k (by simpa using h)
      show (blkCell a ++ gCells blkCell out).set ((k + 1) * 3 + 2) _ = blkCell a ++ gCells blkCell (out.set k _)
      rw [← this, show (k + 1) * 3 + 2 = (k * 3 + 2) + 3 by omega]
      rfl
/-- Parts of a slice. -/
theorem GRuns.front {α : Type} {enc : α → List Value} {k : Nat} {w : World} {A : Option Addr} {n c : Nat} {l : List α} (h : GRuns enc k w (.slice A n c) l) (hn : l.length = n) (m : Nat) (hm : m ≤ n) : GRuns enc k w (.slice A m c) (l.take m) := by
  obtain ⟨A', c', e, hc, hmx, hx⟩ := h
  rw [hn] at e hc hx
  obtain ⟨rfl, _, rfl⟩ := Value.slice.inj e
  have hl : (l.take m).length = m := by rw [List.length_take]; omega
  refine ⟨A, c, by rw [hl], by rw [hl]; omega, hmx, fun h0 => ?_⟩
  rw [hl] at h0
  obtain ⟨b, o, e2, hlt, hcell⟩ := hx (by omega)
  exact ⟨b, o, e2, hlt, fun j x hj i u hu => hcell j x (by rw [List.getElem?_take] at hj; split at hj; exact hj; cases hj) i u hu⟩
theorem GRuns.back {α : Type} {enc : α → List Value} {k : Nat} {w : World} {b o n c : Nat} {l : List α} (h : GRuns enc k w (.slice (some ⟨b, o, none⟩) n c) l) (hn : l.length = n) (m : Nat) (hm : m < n) : GRuns enc k w (.slice (some ⟨b, o + m * k, none⟩) (n - m) (c - m)) (l.drop m) := by
  obtain ⟨A', c', e, hc, ⟨hmx, _⟩, hx⟩ := h
  rw [hn] at e hc hx
  obtain ⟨e1, _, rfl⟩ := Value.slice.inj e
  have hl : (l.drop m).length = n - m := by rw [List.length_drop]; omega
  refine ⟨some ⟨b, o + m * k, none⟩, c - m, by rw [hl], by rw [hl]; omega, ⟨by omega, fun h => by cases h⟩, fun h0 => ?_⟩
  obtain ⟨b', o', e2, hlt, hcell⟩ := hx (by omega)
  have e3 := Option.some.inj (e1.trans e2)
  simp only [Addr.mk.injEq] at e3
  obtain ⟨rfl, rfl, _⟩ := e3
  refine ⟨b, o + m * k, rfl, hlt, fun j x hj i u hu => ?_⟩
  have := hcell (m + j) x (by rwa [List.getElem?_drop] at hj) i u hu
  rwa [show o + (m + j) * k + i = o + m * k + j * k + i by rw [Nat.add_mul]; omega] at this
theorem GRuns.none_ {α : Type} {enc : α → List Value} {k : Nat} {w : World} {A : Option Addr} {c : Nat} (hc : c ≤ maxLen) (hA : A = none → c = 0) : GRuns enc k w (.slice A 0 c) [] := ⟨A, c, rfl, Nat.zero_le _, ⟨hc, hA⟩, fun h => absurd h (by simp)⟩
end Go.Proofs.YtnognphjndpgkaaGreatDoor

