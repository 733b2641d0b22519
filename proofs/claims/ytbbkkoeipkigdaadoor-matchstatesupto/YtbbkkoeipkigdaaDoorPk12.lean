/- Texts that several proofs of this seat share, one behind the other: MHits MSlice MAt NRef. -/
import Derived.Test.YtbbkkoeipkigdaaDoorPk11
import Derived.Test.YtbbkkoeipkigdaaDoorPk2
import Derived.Test.YtbbkkoeipkigdaaDoorPk1
import Derived.Test.YtbbkkoeipkigdaaDoorProg
import Derived.Test.YtbbkkoeipkigdaaDoorPk3
/- match's read, Hits, At, States. -/
namespace Go.Proofs.YtbbkkoeipkigdaaDoor
open Go.RowKit Go.Shelf
set_option linter.unusedSimpArgs false
set_option linter.unusedVariables false

/-- Why a text can't be looked at; its runes. -/
def rdE (s : List UInt8) : Int := if Lib.validD s then (if 64 < (items s).length then 5 else 0) else 3
theorem rdE_ok {s : List UInt8} (h : rdE s = 0) : Lib.validD s = true ∧ (items s).length ≤ 64 ∧ decRunes s = items s ∧ decErr s = 0 := by
  unfold rdE at h
  cases hv : Lib.validD s with
  | false => rw [hv] at h; cases h
  | true =>
    rw [hv] at h
    by_cases hl : 64 < (items s).length
    · simp [hl] at h
    · exact ⟨rfl, by omega, by simp [decRunes, hv], by simp [decErr, hv]⟩
def rdS (s : List UInt8) : List Int := if rdE s = 0 then items s else []
theorem read_nil (s : ByteArray) (w : World) : Calls Tryd.prog 33 #[.pointer none, .string s] w fun e w' => e = .returned (.tuple #[.slice none 0 0, .int .i64 1]) ∧ w' = w := by
  go_enter Tryd.func33, Tryd.ntmps33
  go_wp2
  go_ret2
  exact ⟨rfl, rfl⟩
set_option maxRecDepth 100000 in
set_option maxHeartbeats 4000000 in
theorem read_any (p : Nat) (s : ByteArray) (w : World) (hO : Okw w) (hs : s.size * 4 ≤ 140737488355328) :
    Calls Tryd.prog 33 #[.pointer (some ⟨p, 0, none⟩), .string s] w fun e w' => ∃ A c, e = .returned (.tuple #[.slice A (rdS s.data.toList).length c, .int .i64 (rdE s.data.toList)]) ∧ Runs w' (.slice A (rdS s.data.toList).length c) (rdS s.data.toList) ∧ Below w.heap.size w w' := by
  have cd := decode_runs s w hs hO.1 hO.2
  have CD := Lib.hid cd; clear cd
  have key : (decErr s.data.toList ≠ 0 ∧ rdE s.data.toList = 3 ∧ decErr s.data.toList = 3 ∧ rdS s.data.toList = []) ∨ (decErr s.data.toList = 0 ∧ 64 < (decRunes s.data.toList).length ∧ rdE s.data.toList = 5 ∧ rdS s.data.toList = []) ∨ (decErr s.data.toList = 0 ∧ ¬ 64 < (decRunes s.data.toList).length ∧ rdE s.data.toList = 0 ∧ rdS s.data.toList = decRunes s.data.toList) := by
    cases hv : Lib.validD s.data.toList with
    | false => left; simp [decErr, rdE, rdS, hv]
    | true =>
      right
      by_cases hl : 64 < (items s.data.toList).length
      · left; simp [decErr, rdE, rdS, decRunes, hv, hl]
      · right; simp [decErr, rdE, rdS, decRunes, hv, hl]
  obtain ⟨x, hx⟩ : ∃ z, rdS s.data.toList = z := ⟨_, rfl⟩
  obtain ⟨er, her⟩ : ∃ z, rdE s.data.toList = z := ⟨_, rfl⟩
  obtain ⟨y, hy⟩ : ∃ z, decRunes s.data.toList = z := ⟨_, rfl⟩
  obtain ⟨de, hde⟩ : ∃ z, decErr s.data.toList = z := ⟨_, rfl⟩
  rw [hx, her, hy, hde] at key
  rw [hx, her]
  rw [hy, hde] at CD
  clear hx her hy hde
  obtain ⟨n, hn⟩ : ∃ z, y.length = z := ⟨_, rfl⟩
  rw [hn] at CD key
  have HN := Lib.hid hn
  clear hn
  rcases key with ⟨h1, rfl, rfl, rfl⟩ | ⟨rfl, h1, rfl, rfl⟩ | ⟨rfl, h1, rfl, rfl⟩
  · clear h1
    go_enter Tryd.func33, Tryd.ntmps33
    go_wp2_with fail
    refine CD.out.mono ?_
    rintro e w1 ⟨A, c, rfl, hr, hb⟩
    have HB := Lib.hid hb; clear hb hr
    go_wp2
    go_ret2
    exact ⟨none, 0, rfl, Runs.nil_ _, HB.out⟩
  · have h2 : (64 : Int) < (n : Int) := by omega
    go_enter Tryd.func33, Tryd.ntmps33
    go_wp2_with fail
    refine CD.out.mono ?_
    rintro e w1 ⟨A, c, rfl, hr, hb⟩
    have HB := Lib.hid hb; clear hb hr
    go_wp2
    go_ret2
    exact ⟨none, 0, rfl, Runs.nil_ _, HB.out⟩
  · have h2 : ¬ (64 : Int) < (n : Int) := by omega
    go_enter Tryd.func33, Tryd.ntmps33
    go_wp2_with fail
    refine CD.out.mono ?_
    rintro e w1 ⟨A, c, rfl, hr, hb⟩
    have HB := Lib.hid hb; have HR := Lib.hid hr; clear hb hr
    go_wp2
    go_ret2
    exact ⟨A, c, by rw [HN.out]; rfl, by rw [HN.out]; exact HR.out, HB.out⟩

/-- A row of hits, as it is read. -/
def hitCell (x : Nat × Nat) : List Value := [.int .i64 (x.1 : Int), .int .i64 (x.2 : Int)]
theorem hit_len (x : Nat × Nat) : (hitCell x).length = 2 := rfl
theorem hit_one (x : Nat × Nat) : ∀ u ∈ hitCell x, u.oneCell' = true := by
  intro u hu
  simp only [hitCell, List.mem_cons, List.mem_nil_iff, or_false] at hu
  rcases hu with rfl | rfl <;> rfl
abbrev HRuns (w : World) (v : Value) (l : List (Nat × Nat)) : Prop := GRuns hitCell 2 w v l
theorem info_hit : (Tryd.prog.info? 50).map (fun i => (i.zero, i.size, i.bytes)) = some (some (.agg #[.int .i64 0, .int .i64 0]), 2, 16) := by kernel_rfl
theorem push_hit {w : World} {b0 n : Nat} {v : Value} {l : List (Nat × Nat)} (h : w.ownsRow b0 50 2 v n (gCells hitCell l)) (hb : b0 ≤ w.heap.size) (hl : n ≤ 1000000) (a i : Nat) :
    ∃ v' w', (Builtin.append_ #[32, 32] 32 #[v, .slice (some ⟨w.heap.size, 0, none⟩) 1 1]).run Tryd.prog (w.alloc (.cells #[.int .i64 (a : Int), .int .i64 (i : Int)] 50)) = .ok v' w' ∧
      w'.ownsRow b0 50 2 v' (n + 1) (gCells hitCell (l ++ [(a, i)])) ∧ Below b0 w w' := by
  obtain ⟨v', w', hrun, hown, hg, hob⟩ := append_one (P := Tryd.prog) (enc := hitCell) (k := 2) (fun _ => rfl) hit_one info_hit rfl (by decide) (by decide) Tryd.underlying32 w b0 v n (gCells hitCell l) h (a, i) hb (by omega)
  have hg1 : w.grownBy w' v.ownBlock := (World.grownBy_alloc _ _ _).trans hg
  exact ⟨v', w', hrun, by rw [gCells_snoc]; exact hown, (Below.refl b0 w).grown hg1 hb (own_block h)⟩
/-- The hits of the places ahead of one; of that one the first ones. -/
def hitsTo (X : Nat → List Nat) (a : Nat) : List (Nat × Nat) := (List.range a).flatMap (fun b => (X b).map (fun i => (b, i)))
theorem hitsTo_succ (X : Nat → List Nat) (a : Nat) : hitsTo X (a + 1) = hitsTo X a ++ (X a).map (fun i => (a, i)) := by
  unfold hitsTo
  rw [List.range_succ, List.flatMap_append]
  simp
theorem hitsTo_len (X : Nat → List Nat) (c : Nat) (h : ∀ b, (X b).length ≤ c) (a : Nat) : (hitsTo X a).length ≤ a * c := by
  induction a with
  | zero => simp [hitsTo]
  | succ a ih =>
    rw [hitsTo_succ, List.length_append, List.length_map, Nat.succ_mul]
    have := h a
    omega
theorem POwn.runs {w : World} {b0 G : Nat} {vals : List Value} {Xs : List (List Nat)} (h : POwn w b0 G vals Xs) {j : Nat} {v : Value} {X : List Nat} (hv : vals[j]? = some v) (hX : Xs[j]? = some X) : NRuns w v X :=
  GRuns.of_own (enc := numCell) (k := 1) (fun _ => rfl) rfl (h.own j v X hv hX)
theorem atP_len (F : List (List Int)) (l : List Int) (a : Nat) : (atP F l a).length ≤ F.length := by
  unfold atP
  have := List.length_filter_le (fun i => (F.getD i []).isPrefixOf (l.drop a)) (List.range F.length)
  simpa using this

/-- What is known of a machine of normal rules. -/
structure MRules (L : List Blk) : Prop where
  many : (frs L).length ≤ 4096
  up : PreUp (frs L)
theorem mrules_of {L : List Blk} (h : risS L = 0) : MRules L := by
  obtain ⟨_, _, h3⟩ := risS_facts h
  exact ⟨by rw [frs_len]; exact h3, frs_up h⟩

/-- All hits, as Hits hands them out. -/
def htS (L : List Blk) (s : List UInt8) : List (Nat × Nat) := if rdE s = 0 then hitsP (frs L) (items s) else []

theorem hits_nil (s : ByteArray) (w : World) : Calls Tryd.prog 15 #[.pointer none, .string s] w fun e w' => e = .returned (.tuple #[.slice none 0 0, .int .i64 1]) ∧ w' = w := by
  have c := Lib.hid (read_nil s w)
  go_enter Tryd.func15, Tryd.ntmps15
  go_wp2_with fail
  refine c.out.mono ?_
  rintro e w1 ⟨rfl, rfl⟩
  go_wp2
  go_ret2
  exact ⟨rfl, rfl⟩
set_option maxRecDepth 100000 in
set_option maxHeartbeats 8000000 in
theorem hits_any (p : Nat) (L : List Blk) (s : ByteArray) (w : World) (hO : Okw w) (hs : s.size * 4 ≤ 140737488355328) (hL : MRules L) (hM : MachOk w p L) :
    Calls Tryd.prog 15 #[.pointer (some ⟨p, 0, none⟩), .string s] w fun e w' => ∃ v, e = .returned (.tuple #[v, .int .i64 (rdE s.data.toList)]) ∧ HRuns w' v (htS L s.data.toList) ∧ Below w.heap.size w w' := by
  have CR := Lib.hid (read_any p s w hO hs)
  have hok := fun h => @rdE_ok s.data.toList h
  have hht : htS L s.data.toList = if rdE s.data.toList = 0 then hitsP (frs L) (items s.data.toList) else [] := rfl
  have hrs : rdS s.data.toList = if rdE s.data.toList = 0 then items s.data.toList else [] := rfl
  have hval : rdE s.data.toList = 0 → ∀ x ∈ items s.data.toList, Lib.validRune x = true := fun h => items_runes _ (rdE_ok h).1
  obtain ⟨er, her⟩ : ∃ z, rdE s.data.toList = z := ⟨_, rfl⟩
  obtain ⟨Y, hY⟩ : ∃ z, htS L s.data.toList = z := ⟨_, rfl⟩
  obtain ⟨x, hx⟩ : ∃ z, rdS s.data.toList = z := ⟨_, rfl⟩
  rw [hY, her] at hht
  rw [hx, her] at hrs
  rw [her] at hok hval
  rw [her, hY]
  rw [hx, her] at CR
  have HOK := Lib.hid hok; have HHT := Lib.hid hht; have HRS := Lib.hid hrs; have HVAL := Lib.hid hval
  have HM := Lib.hid hM; have HL := Lib.hid hL
  clear her hY hx hok hht hrs hval hM hL hO hs
  obtain ⟨n, hn⟩ : ∃ z, x.length = z := ⟨_, rfl⟩
  rw [hn] at CR
  have HN := Lib.hid hn
  clear hn
  go_enter Tryd.func15, Tryd.ntmps15
  go_wp2_with fail
  refine CR.out.mono ?_
  rintro e w1 ⟨A, c, rfl, hr, hb⟩
  have HB := Lib.hid hb
  have HR := Lib.hid hr
  have HM1 := Lib.hid (HM.out.below hb)
  clear hb hr CR HM
  by_cases h0 : er = 0
  · subst h0
    obtain ⟨hv, hl64, _, _⟩ := HOK.out (by first | rfl | trivial)
    have hxi : x = items s.data.toList := by rw [HRS.out, if_pos (by first | rfl | trivial)]
    have hYi : Y = hitsP (frs L) (items s.data.toList) := by rw [HHT.out, if_pos (by first | rfl | trivial)]
    have hvr := HVAL.out (by first | rfl | trivial)
    rw [← hxi] at hl64 hYi hvr
    rw [HN.out] at hl64
    obtain ⟨A', c', g', mp', T, hMr, hT⟩ := HM1.out
    have cp := places_any w1 p c' g' mp' A' T (frs L) hMr HL.out.many (fun f hf => (hT f).2 (by have := inM_row hf; simpa [inM] using this)) (.slice A n c) x HR.out (by rw [HN.out]; exact hl64) hvr
    rw [HN.out] at cp
    have hXa : ∀ a, a ≤ n → accP (frs L) x (n + 1) a = atP (frs L) x a := fun a ha => by rw [← HN.out]; exact accP_at HL.out.up x (by rw [HN.out]; exact ha)
    have hYh : Y = hitsTo (atP (frs L) x) (n + 1) := by rw [hYi, ← HN.out]; rfl
    have CP := Lib.hid cp; have HXA := Lib.hid hXa; have HYH := Lib.hid hYh
    clear cp hXa hYh hMr hT hv hxi hYi hvr HOK HHT HRS HVAL HM1
    go_wp2_with fail
    refine CP.out.mono ?_
    rintro e w2 ⟨vals, rfl, hP, hb2⟩
    have hgl := hP.lt
    have HB2 := Lib.hid (HB.out.trans (hb2.mono HB.out.size))
    have HP := Lib.hid hP
    clear hP hb2 CP
    obtain ⟨G, hG⟩ : ∃ z, w1.heap.size = z := ⟨_, rfl⟩
    rw [hG] at HP hgl ⊢
    clear hG
    go_wp2
    go_loopw [8, 26] (fun s8 s26 wr => ∃ k : Nat, k ≤ n + 1 ∧ s26 = .int .i64 (k : Int) ∧ Hid (wr.ownsRow w2.heap.size 50 2 s8 (hitsTo (atP (frs L) x) k).length (gCells hitCell (hitsTo (atP (frs L) x) k))) ∧ Hid (Below w2.heap.size w2 wr)) (fun _ s26 _ => n + 1 - (RowKit.intOf s26).toNat)
    case atStart => exact ⟨0, Nat.zero_le _, rfl, Lib.hid (World.ownsRow_nil _ _ _ _), Lib.hid (Below.refl _ _)⟩
    case round =>
      obtain ⟨k, hk, rfl, HO, BW⟩ := hrel
      by_cases hk1 : k < n + 1
      · have k1 : (k : Int) < (n : Int) + 1 := by omega
        have hPw : POwn wr G G vals ((List.range (n + 1)).map (accP (frs L) x (n + 1))) := HP.out.keep (fun q o _ hq _ => (BW.out.block q (Array.getElem?_eq_some_iff.1 hq).1).trans hq)
        obtain ⟨u, hu⟩ : ∃ u, vals[k]? = some u := ⟨_, List.getElem?_eq_getElem (by rw [← hPw.lx]; simpa using hk1)⟩
        have g0 := hPw.cell hu
        have hru := HP.out.runs hu (X := atP (frs L) x k) (by rw [List.getElem?_map, List.getElem?_range hk1, Option.map_some, HXA.out k (by omega)])
        obtain ⟨X, hX⟩ : ∃ z, atP (frs L) x k = z := ⟨_, rfl⟩
        rw [hX] at hru
        have hXl : X.length ≤ 4096 := by rw [← hX]; exact Nat.le_trans (atP_len _ _ _) HL.out.many
        have hto : (hitsTo (atP (frs L) x) k).length ≤ 65 * 4096 := Nat.le_trans (hitsTo_len _ 4096 (fun b => Nat.le_trans (atP_len _ _ _) HL.out.many) k) (Nat.mul_le_mul_right _ (by omega))
        have hst : hitsTo (atP (frs L) x) (k + 1) = hitsTo (atP (frs L) x) k ++ X.map (fun i => (k, i)) := by rw [hitsTo_succ, hX]
        obtain ⟨Z, hZ⟩ : ∃ z, hitsTo (atP (frs L) x) k = z := ⟨_, rfl⟩
        rw [hZ] at hto hst HO
        have HST := Lib.hid hst
        obtain ⟨Ax, cx, rfl⟩ := GRuns.slice hru
        obtain ⟨q, hq⟩ : ∃ z, X.length = z := ⟨_, rfl⟩
        rw [hq] at hru hXl g0
        have HQ := Lib.hid hq; have HRU := Lib.hid hru; have BW0 := BW
        clear hPw hu hru hX hst hZ hq
        obtain ⟨bx, hbx⟩ : ∃ z, wr.heap.size = z := ⟨_, rfl⟩
        clear hbx
        have HO0 : Hid (wr.ownsRow w2.heap.size 50 2 u8 (Z ++ (X.take 0).map (fun i => (k, i))).length (gCells hitCell (Z ++ (X.take 0).map (fun i => (k, i))))) := Lib.hid (by simpa using HO.out)
        go_wp2
        go_loopw [8, 33] (fun s8 s33 wq => ∃ j : Nat, j ≤ q ∧ s33 = .int .i64 (j : Int) ∧ Hid (wq.ownsRow w2.heap.size 50 2 s8 (Z ++ (X.take j).map (fun i => (k, i))).length (gCells hitCell (Z ++ (X.take j).map (fun i => (k, i))))) ∧ Hid (Below w2.heap.size w2 wq)) (fun _ s33 _ => q - (RowKit.intOf s33).toNat)
        case atStart => exact ⟨0, Nat.zero_le _, rfl, HO0, BW0⟩
        case round =>
          clear HO HO0 BW BW0 g0
          obtain ⟨j, hj, rfl, HO, BW⟩ := hrel
          by_cases hj1 : j < q
          · have j1 : (j : Int) < (q : Int) := by omega
            obtain ⟨i, hi⟩ : ∃ i, X[j]? = some i := ⟨_, List.getElem?_eq_getElem (by rw [HQ.out]; exact hj1)⟩
            obtain ⟨bb, oo, rfl, _, hcc⟩ := (HRU.out.below BW.out).cells HQ.out (by omega)
            have g1 := hcc j i hi 0 _ rfl
            rw [Nat.mul_one, Nat.add_zero] at g1
            have hbw := BW.out.size
            have hlen9 : (Z ++ (X.take j).map (fun i => (k, i))).length ≤ 1000000 := by
              rw [List.length_append, List.length_map, List.length_take, HQ.out]
              omega
            obtain ⟨v6, w6, hrun6, ho6, hb6⟩ := push_hit HO.out hbw hlen9 k i
            have e9 : Z ++ (X.take j).map (fun i => (k, i)) ++ [(k, i)] = Z ++ (X.take (j + 1)).map (fun i => (k, i)) := by
              rw [List.take_add_one, hi]; simp
            have e10 : (Z ++ (X.take j).map (fun i => (k, i))).length + 1 = (Z ++ (X.take (j + 1)).map (fun i => (k, i))).length := (by rw [List.length_append (bs := [(k, i)])]; rfl : _ = (Z ++ (X.take j).map (fun i => (k, i)) ++ [(k, i)]).length).trans (congrArg List.length e9)
            rw [e9, e10] at ho6
            have HO6 := Lib.hid ho6
            have HB6 := Lib.hid (BW.out.trans hb6)
            have H6 := Lib.hid hrun6
            clear hrun6 ho6 hb6 e9 e10 hlen9 hcc hi
            go_wp2_with (at_builtin; refine wpList_append_run (.tmp 37) (.tmp 41) 32 _ _ _ _ H6.out rfl rfl rfl rfl ?_)
            exact ⟨⟨j + 1, by omega, by go_num, HO6, HB6⟩, by simp [RowKit.intOf]; omega⟩
          · obtain rfl : j = q := by omega
            have HE : Hid (wr.ownsRow w2.heap.size 50 2 u8 (hitsTo (atP (frs L) x) (k + 1)).length (gCells hitCell (hitsTo (atP (frs L) x) (k + 1)))) := Lib.hid (by
              rw [HST.out]
              have := HO.out
              rwa [List.take_of_length_le (by rw [HQ.out]; exact Nat.le_refl _)] at this)
            go_wp2
            exact ⟨⟨k + 1, by omega, by go_num, HE, BW⟩, by simp [RowKit.intOf]; omega⟩
      · obtain rfl : k = n + 1 := by omega
        have k1 : ¬ (((n + 1 : Nat) : Int)) < (n : Int) + 1 := by omega
        have HE : Hid (HRuns wr u8 Y) := Lib.hid (by rw [HYH.out]; exact GRuns.of_own hit_len rfl HO.out)
        go_wp2
        go_ret2
        exact ⟨_, rfl, HE.out, HB2.out.trans (BW.out.mono HB2.out.size)⟩
  · have hne : (er != 0) = true := by simpa using h0
    have hYe : Hid (Y = []) := Lib.hid (by rw [HHT.out, if_neg h0])
    go_wp2
    go_ret2
    exact ⟨_, rfl, by rw [hYe.out]; exact GRuns.nil_ _ _ _, HB.out⟩
end Go.Proofs.YtbbkkoeipkigdaaDoor

/- Parts of a slice of runes, whatever its form. -/
namespace Go.Proofs.YtbbkkoeipkigdaaDoor
open Go.RowKit
set_option linter.unusedSimpArgs false
set_option linter.unusedVariables false

theorem runs_sliced {w : World} {A : Option Addr} {n c : Nat} {x : List Int} (h : Runs w (.slice A n c) x) (hn : x.length = n) (k m : Nat) (hk : k ≤ m) (hm : m ≤ n) : Runs w (sliced A k m c 1) ((x.drop k).take (m - k)) := by
  obtain ⟨A', c', e, hlc, ⟨hcm, hc0⟩, hx⟩ := h
  obtain ⟨rfl, rfl⟩ : A = A' ∧ c = c' := by simp at e; exact ⟨e.1, e.2.2⟩
  have hl : ((x.drop k).take (m - k)).length = m - k := by rw [List.length_take, List.length_drop]; omega
  refine ⟨if c = k then A else A.map (·.add (k * 1)), c - k, by rw [hl]; rfl, by omega, ⟨by omega, fun e2 => ?_⟩, fun h0 => ?_⟩
  · split at e2
    · omega
    · cases A with
      | none => have := hc0 rfl; omega
      | some a => cases e2
  · rw [hl] at h0
    obtain ⟨b, o, eA, hb, hc⟩ := hx (by omega)
    subst eA
    refine ⟨b, o + k, ?_, hb, fun j hj => ?_⟩
    · rw [if_neg (by omega)]
      simp [Addr.add]
    · rw [hl] at hj
      rw [Nat.add_assoc, hc (k + j) (by omega)]
      simp only [List.getD_eq_getElem?_getD, List.getElem?_take, List.getElem?_drop]
      rw [if_pos (by omega)]
/-- Where a part of a slice begins. -/
def cutA (A : Option Addr) (c k : Nat) : Option Addr := if c = k then A else A.map (·.add (k * 1))
theorem size32 (w : World) : (sizeOf (Tryd.prog.elem 46)).run Tryd.prog w = .ok 1 w := by kernel_rfl
theorem elem32 : Tryd.prog.underlying 46 = some (.slice (Tryd.prog.elem 46)) := by kernel_rfl
theorem slice_lh32 {w : World} {A : Option Addr} {n c : Nat} {x : List Int} (h : Runs w (.slice A n c) x) (hn : x.length = n) (k m : Nat) (hk : k ≤ m) (hm : m ≤ n) :
    (Instr.slice 46 (.slice A n c) (some (.int .i64 (k : Int))) (some (.int .i64 (m : Int))) none).run Tryd.prog w = .ok (.slice (cutA A c k) (m - k) (c - k)) w ∧ Runs w (.slice (cutA A c k) (m - k) (c - k)) ((x.drop k).take (m - k)) := by
  have hr := runs_sliced h hn k m hk hm
  obtain ⟨A', c', e, hlc, _, _⟩ := h
  obtain ⟨rfl, rfl⟩ : A = A' ∧ c = c' := by simp at e; exact ⟨e.1, e.2.2⟩
  refine ⟨?_, hr⟩
  rw [run_slice_lh (ht := elem32) (h0 := by omega) (h1 := by omega) (h2 := by omega), size32]
  simp [Result.andThen, sliced, cutA]
theorem slice_h32 {w : World} {A : Option Addr} {n c : Nat} {x : List Int} (h : Runs w (.slice A n c) x) (hn : x.length = n) (m : Nat) (hm : m ≤ n) :
    (Instr.slice 46 (.slice A n c) none (some (.int .i64 (m : Int))) none).run Tryd.prog w = .ok (.slice (cutA A c 0) m c) w ∧ Runs w (.slice (cutA A c 0) m c) (x.take m) := by
  have hr := runs_sliced h hn 0 m (Nat.zero_le _) hm
  rw [List.drop_zero, Nat.sub_zero] at hr
  obtain ⟨A', c', e, hlc, _, _⟩ := h
  obtain ⟨rfl, rfl⟩ : A = A' ∧ c = c' := by simp at e; exact ⟨e.1, e.2.2⟩
  refine ⟨?_, hr⟩
  rw [run_slice_h (ht := elem32) (h0 := by omega) (h2 := by omega), size32]
  simp [Result.andThen, sliced, cutA]
theorem slice_l32 {w : World} {A : Option Addr} {n c : Nat} {x : List Int} (h : Runs w (.slice A n c) x) (hn : x.length = n) (k : Nat) (hk : k ≤ n) :
    (Instr.slice 46 (.slice A n c) (some (.int .i64 (k : Int))) none none).run Tryd.prog w = .ok (.slice (cutA A c k) (n - k) (c - k)) w ∧ Runs w (.slice (cutA A c k) (n - k) (c - k)) (x.drop k) := by
  have hr := runs_sliced h hn k n hk (Nat.le_refl _)
  rw [List.take_of_length_le (by rw [List.length_drop]; omega)] at hr
  refine ⟨?_, hr⟩
  rw [run_slice_l (ht := elem32) (h0 := by omega) (h1 := by omega), size32]
  simp [Result.andThen, sliced, cutA]
end Go.Proofs.YtbbkkoeipkigdaaDoor

/- match's At, States. -/
namespace Go.Proofs.YtbbkkoeipkigdaaDoor
open Go.RowKit Go.Shelf
set_option linter.unusedSimpArgs false
set_option linter.unusedVariables false

/-- A row of numbers, copied. -/
theorem clone_nums (v : Value) (X : List Nat) (w : World) (hv : NRuns w v X) (hl : X.length ≤ 1000000) :
    Calls Tryd.prog 36 #[v] w fun e w' => ∃ v', e = .returned v' ∧ w'.ownsRow w.heap.size 3 1 v' X.length (gCells numCell X) ∧ Below w.heap.size w w' := by
  have hg : gCells numCell X = (X.map (fun x : Nat => (x : Int))).map (Value.int .i64) := by
    clear hv hl
    induction X with
    | nil => rfl
    | cons a X ih =>
      show numCell a ++ gCells numCell X = _
      rw [ih]; rfl
  obtain ⟨A, c, rfl, hc, ⟨hm, hc0⟩, hx⟩ := hv
  cases A with
  | none =>
    have h0 := hc0 rfl
    have hX : X = [] := List.eq_nil_of_length_eq_zero (by omega)
    subst hX
    refine (Tryd.slices_Clone_int_nil 0 c w).mono ?_
    rintro e w' ⟨rfl, rfl⟩
    exact ⟨_, rfl, World.ownsRow_nil _ _ _ _, Below.refl _ _⟩
  | some a =>
    by_cases h0 : X.length = 0
    · have hX : X = [] := List.eq_nil_of_length_eq_zero h0
      subst hX
      refine (Tryd.slices_Clone_int_zero a c w).mono ?_
      rintro e w' ⟨v', rfl, ho, _, hb⟩
      exact ⟨v', rfl, ho, hb⟩
    · obtain ⟨b, o, e, hlt, hcc⟩ := hx (by omega)
      have e2 := Option.some.inj e
      subst e2
      refine (Tryd.slices_Clone_int b o X.length c (X.map (fun x : Nat => (x : Int))) w (by simp) (by omega) (fun j hj => ?_)).mono ?_
      · have hj' : j < X.length := by simpa using hj
        have := hcc j (X[j]) (List.getElem?_eq_getElem hj') 0 _ rfl
        rw [Nat.mul_one, Nat.add_zero] at this
        rw [this]
        simp [List.getD_eq_getElem?_getD, hj']
      · rintro e w' ⟨v', rfl, ho, _, hb⟩
        refine ⟨v', rfl, ?_, hb⟩
        rw [hg]
        rw [List.take_of_length_le (by simp)] at ho
        exact ho

theorem push_nums {w : World} {b0 n : Nat} {v u : Value} {X ys : List Nat} (h : w.ownsRow b0 3 1 v n (gCells numCell X)) (hb : b0 ≤ w.heap.size) (hl : n ≤ 1000000) (hu : NRuns w u ys) (hy : ys.length ≤ 1000000) :
    ∃ v' w', (Builtin.append_ #[38, 38] 38 #[v, u]).run Tryd.prog w = .ok v' w' ∧ w'.ownsRow b0 3 1 v' (n + ys.length) (gCells numCell (X ++ ys)) ∧ Below b0 w w' := by
  obtain ⟨v', w', hrun, hown, hg, hob⟩ := append_many (P := Tryd.prog) (enc := numCell) (k := 1) (fun _ => rfl) num_one info_int8 rfl (by decide) (by decide) Tryd.underlying38 w b0 v n (gCells numCell X) h u ys hu hb (by omega)
  exact ⟨v', w', hrun, by rw [gCells_append]; exact hown, (Below.refl b0 w).grown hg hb (own_block h)⟩

/-- Why the rules of a place can't be told; which they are. -/
def atE (s : List UInt8) (a : Int) : Int := if rdE s = 0 then (if a < 0 ∨ ((items s).length : Int) < a then 2 else 0) else rdE s
def atS (L : List Blk) (s : List UInt8) (a : Int) : List Nat := if atE s a = 0 then atP (frs L) (items s) a.toNat else []
theorem at_nil (s : ByteArray) (a : Int) (w : World) : Calls Tryd.prog 17 #[.pointer none, .string s, .int .i64 a] w fun e w' => e = .returned (.tuple #[.slice none 0 0, .int .i64 1]) ∧ w' = w := by
  have c := Lib.hid (read_nil s w)
  go_enter Tryd.func17, Tryd.ntmps17
  go_wp2_with fail
  refine c.out.mono ?_
  rintro e w1 ⟨rfl, rfl⟩
  go_wp2
  go_ret2
  exact ⟨rfl, rfl⟩
theorem flat_nums {X : Nat → List Nat} {c : Nat} (h : ∀ b, (X b).length ≤ c) (a : Nat) : ((List.range a).flatMap X).length ≤ a * c := by
  have := flat_len X c h (List.range a)
  rwa [List.length_range] at this
set_option maxRecDepth 100000 in
set_option maxHeartbeats 8000000 in
theorem at_any (p : Nat) (L : List Blk) (s : ByteArray) (a : Int) (w : World) (hO : Okw w) (hs : s.size * 4 ≤ 140737488355328) (hL : MRules L) (hM : MachOk w p L) :
    Calls Tryd.prog 17 #[.pointer (some ⟨p, 0, none⟩), .string s, .int .i64 a] w fun e w' => ∃ v, e = .returned (.tuple #[v, .int .i64 (atE s.data.toList a)]) ∧ NRuns w' v (atS L s.data.toList a) ∧ Below w.heap.size w w' := by
  have CR := Lib.hid (read_any p s w hO hs)
  have hat : atE s.data.toList a = if rdE s.data.toList = 0 then (if a < 0 ∨ ((items s.data.toList).length : Int) < a then 2 else 0) else rdE s.data.toList := rfl
  have hht : atS L s.data.toList a = if atE s.data.toList a = 0 then atP (frs L) (items s.data.toList) a.toNat else [] := rfl
  have hrs : rdS s.data.toList = if rdE s.data.toList = 0 then items s.data.toList else [] := rfl
  have hval : rdE s.data.toList = 0 → (∀ x ∈ items s.data.toList, Lib.validRune x = true) ∧ (items s.data.toList).length ≤ 64 := fun h => ⟨items_runes _ (rdE_ok h).1, (rdE_ok h).2.1⟩
  obtain ⟨er, her⟩ : ∃ z, rdE s.data.toList = z := ⟨_, rfl⟩
  obtain ⟨ea, hea⟩ : ∃ z, atE s.data.toList a = z := ⟨_, rfl⟩
  obtain ⟨Y, hY⟩ : ∃ z, atS L s.data.toList a = z := ⟨_, rfl⟩
  obtain ⟨x, hx⟩ : ∃ z, rdS s.data.toList = z := ⟨_, rfl⟩
  rw [hY, hea] at hht
  rw [hea, her] at hat
  rw [hx, her] at hrs
  rw [her] at hval
  rw [hea, hY]
  rw [hx, her] at CR
  have HAT := Lib.hid hat; have HHT := Lib.hid hht; have HRS := Lib.hid hrs; have HVAL := Lib.hid hval
  have HM := Lib.hid hM; have HL := Lib.hid hL
  clear her hea hY hx hat hht hrs hval hM hL hO hs
  obtain ⟨n, hn⟩ : ∃ z, x.length = z := ⟨_, rfl⟩
  rw [hn] at CR
  have HN := Lib.hid hn
  clear hn
  go_enter Tryd.func17, Tryd.ntmps17
  go_wp2_with fail
  refine CR.out.mono ?_
  rintro e w1 ⟨A, c, rfl, hr, hb⟩
  have HB := Lib.hid hb
  have HR := Lib.hid hr
  have HM1 := Lib.hid (HM.out.below hb)
  clear hb hr CR HM
  by_cases h0 : er = 0
  · subst h0
    have hxi : x = items s.data.toList := by rw [HRS.out, if_pos (by first | rfl | trivial)]
    obtain ⟨hvr, hl64⟩ := HVAL.out (by first | rfl | trivial)
    have hat1 : ea = if a < 0 ∨ (n : Int) < a then 2 else 0 := by rw [HAT.out, if_pos (by first | rfl | trivial), ← hxi, HN.out]
    have hY1 : Y = if ea = 0 then atP (frs L) x a.toNat else [] := by rw [HHT.out, ← hxi]
    rw [← hxi] at hvr hl64
    rw [HN.out] at hl64
    have HAT1 := Lib.hid hat1; have HY1 := Lib.hid hY1; have HVR := Lib.hid hvr
    clear hxi hvr hat1 hY1 HAT HHT HRS HVAL
    by_cases ha0 : a < 0
    · have hea : Hid (ea = 2 ∧ Y = []) := Lib.hid (by
        have h1 : ea = 2 := by rw [HAT1.out, if_pos (.inl ha0)]
        exact ⟨h1, by rw [HY1.out, h1]; rfl⟩)
      go_wp2
      go_ret2
      exact ⟨_, by rw [hea.out.1]; rfl, by rw [hea.out.2]; exact GRuns.nil_ _ _ _, HB.out⟩
    by_cases ha1 : (n : Int) < a
    · have hea : Hid (ea = 2 ∧ Y = []) := Lib.hid (by
        have h1 : ea = 2 := by rw [HAT1.out, if_pos (.inr ha1)]
        exact ⟨h1, by rw [HY1.out, h1]; rfl⟩)
      go_wp2
      go_ret2
      exact ⟨_, by rw [hea.out.1]; rfl, by rw [hea.out.2]; exact GRuns.nil_ _ _ _, HB.out⟩
    obtain ⟨k, rfl⟩ : ∃ k : Nat, a = (k : Int) := ⟨a.toNat, by omega⟩
    have hkn : k ≤ n := by omega
    have hea : Hid (ea = 0 ∧ Y = atP (frs L) x k) := Lib.hid (by
      have h1 : ea = 0 := by rw [HAT1.out, if_neg (by omega)]
      exact ⟨h1, by rw [HY1.out, h1]; rfl⟩)
    clear HAT1 HY1
    obtain ⟨A', c', g, mp, T, hMr, hT⟩ := HM1.out
    obtain ⟨y0, y1, rv, y2, y3⟩ := hMr.st 0 [] hMr.ok.head
    rw [adM_zero] at y2
    have ccl := clone_nums rv (idxP (frs L) (frs L).length []) w1 y3 (by have := idxP_len (frs L) (frs L).length []; have := HL.out.many; omega)
    have hin : ∀ f ∈ frs L, inT T f = true := fun f hf => inT_mem.2 ((hT f).2 (by have := inM_row hf; simpa [inM] using this))
    have hall := metA_all HL.out.up x (a := k) (by rw [HN.out]; exact hkn)
    obtain ⟨z, hz⟩ : ∃ z, x.drop k = z := ⟨_, rfl⟩
    have hzv : ∀ r ∈ z, Lib.validRune r = true := fun r hr => HVR.out r (by rw [← hz] at hr; exact List.mem_of_mem_drop hr)
    obtain ⟨q, hq⟩ : ∃ z, n - k = z := ⟨_, rfl⟩
    have hzl : z.length = q := by rw [← hz, List.length_drop, HN.out, hq]
    have hq64 : q ≤ 64 := by omega
    rw [hz] at hall
    rw [hzl] at hall
    obtain ⟨cs, hcs⟩ : ∃ z, c - k = z := ⟨_, rfl⟩
    have CCL := Lib.hid ccl; have HMr := Lib.hid hMr; have HIN := Lib.hid hin; have HALL := Lib.hid hall; have HZL := Lib.hid hzl; have HZV := Lib.hid hzv
    obtain ⟨As, hAs⟩ : ∃ z, cutA A c k = z := ⟨_, rfl⟩
    have hslx := fun (W : World) (hb : Below w1.heap.size w1 W) => slice_l32 (HR.out.below hb) HN.out k hkn
    rw [hz, hq, hcs, hAs] at hslx
    have HSLX := Lib.hid hslx
    clear ccl hMr hin hall hzl hzv hz hT y0 y1 y3 HM1 hq hcs hAs hslx
    go_wp2_with fail
    refine CCL.out.mono ?_
    rintro e w2 ⟨v2, rfl, ho2, hb2⟩
    have hsl := (HSLX.out w2 hb2).1
    have HB2 := Lib.hid hb2
    have HO2 : Hid (w2.ownsRow w1.heap.size 3 1 v2 (metA (frs L) z 0).length (gCells numCell (metA (frs L) z 0))) := Lib.hid (by rw [metA_zero]; exact ho2)
    clear ho2 hb2 CCL
    go_wp2
    clear hsl
    go_loopw [10, 11, 43] (fun s10 s11 s43 wr => ∃ j m : Nat, j ≤ q ∧ s11 = .int .i64 (m : Int) ∧ s43 = .int .i64 (j : Int) ∧ Hid (T[m]? = some (z.take j)) ∧ Hid (wr.ownsRow w1.heap.size 3 1 s10 (metA (frs L) z j).length (gCells numCell (metA (frs L) z j))) ∧ Hid (Below w1.heap.size w1 wr)) (fun _ _ s43 _ => q - (RowKit.intOf s43).toNat)
    case atStart => exact ⟨0, 0, Nat.zero_le _, rfl, rfl, Lib.hid (by rw [List.take_zero]; exact HMr.out.ok.head), HO2, HB2⟩
    case round =>
      clear HO2 HB2
      obtain ⟨j, m, hj, rfl, rfl, HT, HO, BW⟩ := hrel
      by_cases hj1 : j < q
      · have j1 : (j : Int) < (q : Int) := by omega
        have hMw := HMr.out.below BW.out
        obtain ⟨r, hr⟩ : ∃ r, z[j]? = some r := ⟨_, List.getElem?_eq_getElem (by rw [HZL.out]; exact hj1)⟩
        obtain ⟨As', cs', es, _, _, hx5⟩ := (HSLX.out wr BW.out).2
        rw [HZL.out] at es hx5
        obtain ⟨bb, oo, eA, _, hcc⟩ := hx5 (by omega)
        obtain ⟨rfl, _, rfl⟩ := Value.slice.inj es
        subst eA
        have g1 := hcc j hj1
        have hgd : z.getD j 0 = r := by rw [List.getD_eq_getElem?_getD, hr]; rfl
        rw [hgd] at g1
        obtain ⟨k2, hlk, hk2⟩ := hMw.look m (z.take j) r HT.out (rune_wf (HZV.out r (List.mem_of_getElem? hr)))
        have c4 := hMw.nx
        have htk : z.take j ++ [r] = z.take (j + 1) := by rw [List.take_add_one, hr]; rfl
        rw [htk] at hlk hk2
        cases hfd : inT T (z.take (j + 1)) with
        | false =>
          rw [hfd] at hlk
          have HE : Hid (NRuns wr u10 Y) := Lib.hid (by
            have hst := metA_stop (F := frs L) HMr.out.ok.in_less HIN.out z (k := j) (by rw [HZL.out]; exact hj1) hfd (q - j)
            rw [show j + (q - j) = q by omega, HALL.out, ← hea.out.2] at hst
            rw [hst]
            exact GRuns.of_own (enc := numCell) (k := 1) (fun _ => rfl) rfl HO.out)
          clear hcc hk2 hfd hMw hr hgd htk hx5
          go_wp2
          go_ret2
          exact ⟨_, by rw [hea.out.1]; rfl, HE.out, HB.out.trans (BW.out.mono HB.out.size)⟩
        | true =>
          rw [hfd] at hlk
          have hT2 := hk2 hfd
          have hk2l := (List.getElem?_eq_some_iff.1 hT2).1
          have cst := state_any wr p c' g mp k2 A' T _ hMw hk2l
          obtain ⟨_, _, ru, z2, z3⟩ := hMw.st k2 _ hT2
          obtain ⟨ab, ao, hab⟩ := adM_form p g k2
          rw [hab] at z2 cst
          rw [Nat.add_zero] at cst
          obtain ⟨v6, w6, hrun6, ho6, hb6⟩ := push_nums HO.out BW.out.size (by
            have := flat_nums (X := fun j => idxP (frs L) (frs L).length (z.take j)) (c := 4096) (fun b => Nat.le_trans (idxP_len _ _ _) HL.out.many) (j + 1)
            unfold metA
            omega) z3 (by have := idxP_len (frs L) (frs L).length (z.take (j + 1)); have := HL.out.many; omega)
          rw [← metA_succ] at ho6
          have e10 : (metA (frs L) z j).length + (idxP (frs L) (frs L).length (z.take (j + 1))).length = (metA (frs L) z (j + 1)).length := by rw [metA_succ, List.length_append]
          rw [e10] at ho6
          obtain ⟨Au, cu, rfl⟩ := GRuns.slice z3
          obtain ⟨qu, hqu⟩ : ∃ z9, (idxP (frs L) (frs L).length (z.take (j + 1))).length = z9 := ⟨_, rfl⟩
          rw [hqu] at z2 hrun6
          have HO6 := Lib.hid ho6
          have HB6 := Lib.hid (BW.out.trans hb6)
          have H6 := Lib.hid hrun6; have CST := Lib.hid cst; have HT2 := Lib.hid hT2
          clear hcc hk2 hfd hMw hr hgd htk hx5 hT2 hk2l cst z3 hab hrun6 ho6 hb6 e10 hqu
          go_wp2_with (first | (go_at_call 29; refine CST.out.mono ?_; rintro e w' ⟨rfl, rfl⟩) | (at_builtin; refine wpList_append_run (.tmp 61) (.tmp 67) 38 _ _ _ _ H6.out rfl rfl rfl rfl ?_))
          exact ⟨⟨j + 1, k2, by omega, by go_num, by go_num, HT2, HO6, HB6⟩, by simp [RowKit.intOf]; omega⟩
      · obtain rfl : j = q := by omega
        have HE : Hid (NRuns wr u10 Y) := Lib.hid (by
          rw [hea.out.2, ← HALL.out]
          exact GRuns.of_own (enc := numCell) (k := 1) (fun _ => rfl) rfl HO.out)
        go_wp2
        go_ret2
        exact ⟨_, by rw [hea.out.1]; rfl, HE.out, HB.out.trans (BW.out.mono HB.out.size)⟩
  · have hne : (er != 0) = true := by simpa using h0
    have hYe : Hid (ea = er ∧ Y = []) := Lib.hid (by
      have h1 : ea = er := by rw [HAT.out, if_neg h0]
      exact ⟨h1, by rw [HHT.out, h1, if_neg h0]⟩)
    go_wp2
    go_ret2
    exact ⟨_, by rw [hYe.out.1]; rfl, by rw [hYe.out.2]; exact GRuns.nil_ _ _ _, HB.out⟩

theorem states_nil (w : World) : Calls Tryd.prog 13 #[.pointer none] w fun e w' => e = .returned (.int .i64 0) ∧ w' = w := by
  go_enter Tryd.func13, Tryd.ntmps13
  go_wp2
  go_ret
  exact ⟨rfl, rfl⟩
theorem states_any (p : Nat) (L : List Blk) (w : World) (hM : MachOk w p L) :
    Calls Tryd.prog 13 #[.pointer (some ⟨p, 0, none⟩)] w fun e w' => e = .returned (.int .i64 (statesP (frs L) : Nat)) ∧ w' = w := by
  obtain ⟨A, c, g, mp, T, hMr, hT⟩ := hM
  have hln := whole_len hMr.ok hT
  have hpos := hMr.ok.pos
  have hmax := hMr.len
  have hm := hMr.more
  rw [← hln]
  obtain ⟨n, hn⟩ : ∃ n, T.length = n := ⟨_, rfl⟩
  rw [hn] at hm hpos hmax ⊢
  obtain ⟨q, rfl⟩ : ∃ q, n = q + 1 := ⟨n - 1, by omega⟩
  rw [Nat.add_sub_cancel] at hm
  have hw : IntKind.i64.wrap (1 + (q : Int)) = ((q + 1 : Nat) : Int) := by rw [IntKind.wrap_i64]; omega
  clear hMr hT hln hn
  go_enter Tryd.func13, Tryd.ntmps13
  go_wp2
  go_ret
  exact ⟨rfl, rfl⟩
end Go.Proofs.YtbbkkoeipkigdaaDoor

/- errataref08.Stands, Hits, At, Same, Ints: the document's answers of layer 8. -/
namespace Go.Proofs.YtbbkkoeipkigdaaDoor
open Go.RowKit Go.Shelf
set_option linter.unusedSimpArgs false
set_option linter.unusedVariables false

theorem below_drawn {w w' : World} (h : Drawn w w') : Below w.heap.size w w' := by
  obtain ⟨n, rfl⟩ := h
  exact below_draws (Below.refl _ _) n
theorem prefix_same {x y : List Int} : x.isPrefixOf y = decide (x = y.take x.length) := by
  rw [Bool.eq_iff_iff, List.isPrefixOf_iff_prefix, decide_eq_true_iff]
  exact List.prefix_iff_eq_take

set_option maxRecDepth 100000 in
set_option maxHeartbeats 4000000 in
theorem refStands_any (u v : Value) (x y : List Int) (a : Nat) (w : World) (hu : Runs w u x) (hv : Runs w v y) (ha : a ≤ y.length) (hxl : x.length ≤ 100000) (hyl : y.length ≤ 100000) :
    Calls Tryd.prog 35 #[u, v, .int .i64 (a : Int)] w fun e w' => e = .returned (.bool (x.isPrefixOf (y.drop a))) ∧ Below w.heap.size w w' := by
  obtain ⟨A, c, eu⟩ : ∃ A c, u = .slice A x.length c := by
    obtain ⟨A, c, e, _⟩ := hu
    exact ⟨A, c, e⟩
  obtain ⟨B, d, ev⟩ : ∃ A c, v = .slice A y.length c := by
    obtain ⟨A, c, e, _⟩ := hv
    exact ⟨A, c, e⟩
  have hres : x.isPrefixOf (y.drop a) = decide (x = (y.drop a).take x.length) := prefix_same
  obtain ⟨res, hr⟩ : ∃ z, x.isPrefixOf (y.drop a) = z := ⟨_, rfl⟩
  rw [hr] at hres ⊢
  obtain ⟨n, hn⟩ : ∃ n, x.length = n := ⟨_, rfl⟩
  obtain ⟨m, hm⟩ : ∃ n, y.length = n := ⟨_, rfl⟩
  rw [hn] at eu hres hxl
  rw [hm] at ev ha hyl
  subst eu ev
  obtain ⟨b, hb⟩ : ∃ b : Nat, (a : Int) + (n : Int) = (b : Int) := ⟨a + n, by omega⟩
  have hbn : b = a + n := by omega
  by_cases hle : b ≤ m
  · have h1 : (b : Int) ≤ (m : Int) := by omega
    obtain ⟨hsl, hrs⟩ := slice_lh32 hv hm a b (by omega) hle
    have hc := same_any _ _ _ _ w hu hrs
    rw [show b - a = n by omega] at hsl hrs hc
    rw [← hres] at hc
    obtain ⟨Ac, hAc⟩ : ∃ z, cutA B d a = z := ⟨_, rfl⟩
    obtain ⟨dc, hdc⟩ : ∃ z, d - a = z := ⟨_, rfl⟩
    rw [hAc, hdc] at hsl hc
    have C := Lib.hid hc
    clear hc hrs hAc hdc hres hr hu hv hn hm hbn
    go_enter Tryd.func35, Tryd.ntmps35
    go_wp2_with fail
    refine C.out.mono ?_
    rintro e w' ⟨rfl, hd⟩
    have HD := Lib.hid hd; clear hd
    go_wp2
    go_ret
    exact ⟨by simp, below_drawn HD.out⟩
  · have h1 : ¬ (b : Int) ≤ (m : Int) := by omega
    have hf : Hid (res = false) := Lib.hid (by
      rw [hres, decide_eq_false_iff_not]
      intro e
      have := congrArg List.length e
      rw [List.length_take, List.length_drop] at this
      omega)
    clear hres hr hu hv hn hm hbn
    go_enter Tryd.func35, Tryd.ntmps35
    go_wp2
    go_ret
    exact ⟨by rw [hf.out]; rfl, Below.refl _ _⟩

theorem push_num {w : World} {b0 n : Nat} {v : Value} {X : List Nat} (h : w.ownsRow b0 3 1 v n (gCells numCell X)) (hb : b0 ≤ w.heap.size) (hl : n ≤ 1000000) (i : Nat) :
    ∃ v' w', (Builtin.append_ #[38, 38] 38 #[v, .slice (some ⟨w.heap.size, 0, none⟩) 1 1]).run Tryd.prog (w.alloc (.cells #[.int .i64 (i : Int)] 3)) = .ok v' w' ∧ w'.ownsRow b0 3 1 v' (n + 1) (gCells numCell (X ++ [i])) ∧ Below b0 w w' := by
  obtain ⟨v', w', hrun, hown, hg, hob⟩ := append_one (P := Tryd.prog) (enc := numCell) (k := 1) (fun _ => rfl) num_one info_int8 rfl (by decide) (by decide) Tryd.underlying38 w b0 v n (gCells numCell X) h i hb (by omega)
  have hg1 : w.grownBy w' v.ownBlock := (World.grownBy_alloc _ _ _).trans hg
  exact ⟨v', w', hrun, by rw [gCells_snoc]; exact hown, (Below.refl b0 w).grown hg1 hb (own_block h)⟩
theorem info_rhit : (Tryd.prog.info? 79).map (fun i => (i.zero, i.size, i.bytes)) = some (some (.agg #[.int .i64 0, .int .i64 0]), 2, 16) := by kernel_rfl
theorem push_rhit {w : World} {b0 n : Nat} {v : Value} {l : List (Nat × Nat)} (h : w.ownsRow b0 79 2 v n (gCells hitCell l)) (hb : b0 ≤ w.heap.size) (hl : n ≤ 1000000) (a i : Nat) :
    ∃ v' w', (Builtin.append_ #[35, 35] 35 #[v, .slice (some ⟨w.heap.size, 0, none⟩) 1 1]).run Tryd.prog (w.alloc (.cells #[.int .i64 (a : Int), .int .i64 (i : Int)] 79)) = .ok v' w' ∧
      w'.ownsRow b0 79 2 v' (n + 1) (gCells hitCell (l ++ [(a, i)])) ∧ Below b0 w w' := by
  obtain ⟨v', w', hrun, hown, hg, hob⟩ := append_one (P := Tryd.prog) (enc := hitCell) (k := 2) (fun _ => rfl) hit_one info_rhit rfl (by decide) (by decide) Tryd.underlying35 w b0 v n (gCells hitCell l) h (a, i) hb (by omega)
  have hg1 : w.grownBy w' v.ownBlock := (World.grownBy_alloc _ _ _).trans hg
  exact ⟨v', w', hrun, by rw [gCells_snoc]; exact hown, (Below.refl b0 w).grown hg1 hb (own_block h)⟩
/-- Of a place the first rows that stand there. -/
def rowTo (F : List (List Int)) (l : List Int) (a j : Nat) : List Nat := (List.range j).filter (fun i => (F.getD i []).isPrefixOf (l.drop a))
theorem rowTo_succ (F : List (List Int)) (l : List Int) (a j : Nat) : rowTo F l a (j + 1) = rowTo F l a j ++ if (F.getD j []).isPrefixOf (l.drop a) then [j] else [] := by
  unfold rowTo
  rw [List.range_succ, List.filter_append, List.filter_cons]
  rfl
theorem rowTo_all (F : List (List Int)) (l : List Int) (a : Nat) : rowTo F l a F.length = atP F l a := rfl
theorem rowTo_len (F : List (List Int)) (l : List Int) (a j : Nat) : (rowTo F l a j).length ≤ j := by
  unfold rowTo
  have := List.length_filter_le (fun i => (F.getD i []).isPrefixOf (l.drop a)) (List.range j)
  simpa using this
theorem dec_runs {s : ByteArray} {w : World} {e : Ending} {w' : World} (h : DecPost s w e w') : ∃ A c, e = .returned (.tuple #[.slice A (decRunes s.data.toList).length c, .int .i64 (decErr s.data.toList)]) ∧ Runs w' (.slice A (decRunes s.data.toList).length c) (decRunes s.data.toList) ∧ Below w.heap.size w w' := by
  obtain ⟨v, rfl, hrow, hb⟩ := h
  have hr : Runs w' v (decRunes s.data.toList) := Runs.of_own hrow
  have hr' := hr
  obtain ⟨A, c, rfl, _⟩ := hr'
  exact ⟨A, c, rfl, hr, hb⟩

set_option maxRecDepth 100000 in
set_option maxHeartbeats 8000000 in
theorem refHits_any (u : Value) (L : List Blk) (s : ByteArray) (w : World) (hs : s.size * 4 ≤ 140737488355328) (hu : BRuns w u L) (hl : L.length ≤ 4096) (hz : szL L) (hf : ∀ b ∈ L, Lib.validD b.1.data.toList = true ∧ (items b.1.data.toList).length ≤ 3) :
    Calls Tryd.prog 16 #[u, .string s] w fun e w' => ∃ v, e = .returned (.tuple #[v, .int .i64 (rdE s.data.toList)]) ∧ HRuns w' v (htS L s.data.toList) ∧ Below w.heap.size w w' := by
  have CD := Lib.hid ((refDecode_any s w hs).mono fun e w' h => dec_runs h)
  obtain ⟨A0, c0, e⟩ := hu.slice
  subst e
  have key : (decErr s.data.toList ≠ 0 ∧ rdE s.data.toList = 3 ∧ decErr s.data.toList = 3 ∧ htS L s.data.toList = []) ∨ (decErr s.data.toList = 0 ∧ 64 < (decRunes s.data.toList).length ∧ rdE s.data.toList = 5 ∧ htS L s.data.toList = []) ∨ (decErr s.data.toList = 0 ∧ ¬ 64 < (decRunes s.data.toList).length ∧ rdE s.data.toList = 0 ∧ htS L s.data.toList = hitsP (frs L) (decRunes s.data.toList)) := by
    cases hv : Lib.validD s.data.toList with
    | false => left; simp [decErr, rdE, htS, hv]
    | true =>
      right
      by_cases hl : 64 < (items s.data.toList).length
      · left; simp [decErr, rdE, htS, decRunes, hv, hl]
      · right; simp [decErr, rdE, htS, decRunes, hv, hl]
  obtain ⟨Y, hY⟩ : ∃ z, htS L s.data.toList = z := ⟨_, rfl⟩
  obtain ⟨er, her⟩ : ∃ z, rdE s.data.toList = z := ⟨_, rfl⟩
  obtain ⟨x, hx⟩ : ∃ z, decRunes s.data.toList = z := ⟨_, rfl⟩
  obtain ⟨de, hde⟩ : ∃ z, decErr s.data.toList = z := ⟨_, rfl⟩
  rw [hY, her, hx, hde] at key
  rw [hY, her]
  rw [hx, hde] at CD
  clear hY her hx hde
  obtain ⟨n, hn⟩ : ∃ z, x.length = z := ⟨_, rfl⟩
  obtain ⟨N, hN⟩ : ∃ z, L.length = z := ⟨_, rfl⟩
  rw [hn] at CD key
  rw [hN] at hu hl ⊢
  have HNx := Lib.hid hn; have HN := Lib.hid hN; have HU := Lib.hid hu; have HZ := Lib.hid hz; have HF := Lib.hid hf
  have HST := Lib.hid refStands_any
  clear hn hN hu hz hf hs
  rcases key with ⟨h1, rfl, rfl, rfl⟩ | ⟨rfl, h1, rfl, rfl⟩ | ⟨rfl, h1, rfl, hY⟩
  · clear h1
    go_enter Tryd.func16, Tryd.ntmps16
    go_wp2_with fail
    refine CD.out.mono ?_
    rintro e w1 ⟨A, c, rfl, hr, hb⟩
    have HB := Lib.hid hb; clear hb hr
    go_wp2
    go_ret2
    exact ⟨_, rfl, GRuns.nil_ _ _ _, HB.out⟩
  · have h2 : (64 : Int) < (n : Int) := by omega
    go_enter Tryd.func16, Tryd.ntmps16
    go_wp2_with fail
    refine CD.out.mono ?_
    rintro e w1 ⟨A, c, rfl, hr, hb⟩
    have HB := Lib.hid hb; clear hb hr
    go_wp2
    go_ret2
    exact ⟨_, rfl, GRuns.nil_ _ _ _, HB.out⟩
  · have h2 : ¬ (64 : Int) < (n : Int) := by omega
    have HY := Lib.hid hY
    clear hY
    go_enter Tryd.func16, Tryd.ntmps16
    go_wp2_with fail
    refine CD.out.mono ?_
    rintro e w1 ⟨A, c, rfl, hr, hb⟩
    have HB := Lib.hid hb; have HR := Lib.hid hr; have HU1 := Lib.hid (HU.out.below hb)
    clear hb hr CD
    go_wp2
    go_loopw [8, 9] (fun s8 s9 wr => ∃ a : Nat, a ≤ n + 1 ∧ s9 = .int .i64 (a : Int) ∧ Hid (wr.ownsRow w1.heap.size 79 2 s8 (hitsTo (atP (frs L) x) a).length (gCells hitCell (hitsTo (atP (frs L) x) a))) ∧ Hid (Below w1.heap.size w1 wr) ∧ Hid (Runs wr (.slice A n c) x)) (fun _ s9 _ => n + 1 - (RowKit.intOf s9).toNat)
    case atStart => exact ⟨0, Nat.zero_le _, rfl, Lib.hid (World.ownsRow_nil _ _ _ _), Lib.hid (Below.refl _ _), HR⟩
    case round =>
      obtain ⟨a, ha, rfl, HO, BW, HRw⟩ := hrel
      by_cases ha1 : a ≤ n
      · have a1 : (a : Int) ≤ (n : Int) := by omega
        have hto : (hitsTo (atP (frs L) x) a).length ≤ 65 * 4096 := Nat.le_trans (hitsTo_len _ 4096 (fun b => Nat.le_trans (atP_len _ _ _) (by rw [frs_len, HN.out]; exact hl)) a) (Nat.mul_le_mul_right _ (by omega))
        have hst : hitsTo (atP (frs L) x) (a + 1) = hitsTo (atP (frs L) x) a ++ (atP (frs L) x a).map (fun i => (a, i)) := hitsTo_succ _ _
        obtain ⟨Z, hZ⟩ : ∃ z, hitsTo (atP (frs L) x) a = z := ⟨_, rfl⟩
        rw [hZ] at hto hst HO
        have HSTT := Lib.hid hst
        clear hst hZ
        have HO0 : Hid (wr.ownsRow w1.heap.size 79 2 u8 (Z ++ (rowTo (frs L) x a 0).map (fun i => (a, i))).length (gCells hitCell (Z ++ (rowTo (frs L) x a 0).map (fun i => (a, i))))) := Lib.hid (by simpa [rowTo] using HO.out)
        go_wp2
        go_loopw [8, 33] (fun s8 s33 wq => ∃ j : Nat, j ≤ N ∧ s33 = .int .i64 (j : Int) ∧ Hid (wq.ownsRow w1.heap.size 79 2 s8 (Z ++ (rowTo (frs L) x a j).map (fun i => (a, i))).length (gCells hitCell (Z ++ (rowTo (frs L) x a j).map (fun i => (a, i))))) ∧ Hid (Below w1.heap.size w1 wq) ∧ Hid (Runs wq (.slice A n c) x)) (fun _ s33 _ => N - (RowKit.intOf s33).toNat)
        case atStart => exact ⟨0, Nat.zero_le _, rfl, HO0, BW, HRw⟩
        case round =>
          clear HO HO0 BW HRw
          obtain ⟨j, hj, rfl, HO, BW, HRw⟩ := hrel
          by_cases hj1 : j < N
          · have j1 : (j : Int) < (N : Int) := by omega
            obtain ⟨⟨p1, p2, p3⟩, hp⟩ : ∃ p, L[j]? = some p := ⟨_, List.getElem?_eq_getElem (by rw [HN.out]; exact hj1)⟩
            obtain ⟨b, o, rfl, _, hc⟩ := (HU1.out.below BW.out).cells HN.out (by omega)
            obtain ⟨g0, g1, g2⟩ := blk_cells hc hp
            simp only at g0 g1 g2
            have hz1 := HZ.out _ (List.mem_of_getElem? hp)
            have hv1 := HF.out _ (List.mem_of_getElem? hp)
            simp only at hz1 hv1
            have hal : Below wr.heap.size wr (wr.alloc (.cells #[.string p1, .string p2, .int .i64 p3] 55)) := (Below.refl _ _).alloc (Nat.le_refl _) _
            obtain ⟨wa, hwa⟩ : ∃ z, wr.alloc (.cells #[.string p1, .string p2, .int .i64 p3] 55) = z := ⟨_, rfl⟩
            have x0 : wa.cell? ⟨wr.heap.size, 0, none⟩ = some (.string p1) := by rw [← hwa, cell_of_row _ _ _ _ _ _ (heap_alloc_new wr _)]; rfl
            rw [hwa] at hal
            obtain ⟨bx, hbx⟩ : ∃ z, wr.heap.size = z := ⟨_, rfl⟩
            have HWA := Lib.hid hwa; have HBX := Lib.hid hbx
            rw [hbx] at x0
            have cd := (refDecode_any p1 wa (by omega)).mono fun e w' h => dec_runs h
            have hdr : decRunes p1.data.toList = (frs L).getD j [] := by rw [frs_getD hp]; simp [decRunes, hv1.1]
            have hde : decErr p1.data.toList = 0 := by simp [decErr, hv1.1]
            have hln : (decRunes p1.data.toList).length ≤ 3 := by simp [decRunes, hv1.1, hv1.2]
            rw [hde] at cd
            obtain ⟨f, hf⟩ : ∃ z, decRunes p1.data.toList = z := ⟨_, rfl⟩
            rw [hf] at cd hdr hln
            obtain ⟨q, hq⟩ : ∃ z, f.length = z := ⟨_, rfl⟩
            rw [hq] at cd hln
            have hst2 := rowTo_succ (frs L) x a j
            rw [← hdr] at hst2
            obtain ⟨tb, htb⟩ : ∃ z, f.isPrefixOf (x.drop a) = z := ⟨_, rfl⟩
            rw [htb] at hst2
            have CD := Lib.hid cd; have HQ := Lib.hid hq; have HS2 := Lib.hid hst2; have HTB := Lib.hid htb
            have BA := Lib.hid (BW.out.trans (hal.mono BW.out.size))
            have HOA := Lib.hid (own_below HO.out hal)
            have HRA := Lib.hid (HRw.out.below hal)
            clear hc hp hz1 hv1 hal hwa hbx cd hdr hde hf hq hst2 htb HO HRw
            go_wp2_with fail
            rw [HWA.out, HBX.out]
            refine CD.out.mono ?_
            rintro e w5 ⟨A5, c5, rfl, hr5, hb5⟩
            have cst := HST.out (.slice A5 q c5) (.slice A n c) f x a w5 hr5 (HRA.out.below hb5) (by rw [HNx.out]; exact ha1) (by rw [HQ.out]; omega) (by rw [HNx.out]; omega)
            rw [HTB.out] at cst
            have CST := Lib.hid cst
            have B5 := Lib.hid (BA.out.trans (hb5.mono BA.out.size))
            have HO5 := Lib.hid (own_below HOA.out hb5)
            have HR5 := Lib.hid (HRA.out.below hb5)
            clear hr5 hb5 cst CD HOA HRA BA
            go_wp2_with fail
            refine CST.out.mono ?_
            rintro e w6 ⟨rfl, hb6⟩
            have B6 := Lib.hid (B5.out.trans (hb6.mono B5.out.size))
            have HO6 := Lib.hid (own_below HO5.out hb6)
            have HR6 := Lib.hid (HR5.out.below hb6)
            clear hb6 CST HO5 HR5 B5
            cases tb with
            | false =>
              have HO7 : Hid (w6.ownsRow w1.heap.size 79 2 u8 (Z ++ (rowTo (frs L) x a (j + 1)).map (fun i => (a, i))).length (gCells hitCell (Z ++ (rowTo (frs L) x a (j + 1)).map (fun i => (a, i))))) := Lib.hid (by rw [HS2.out, if_neg (by simp), List.append_nil]; exact HO6.out)
              go_wp2
              exact ⟨⟨j + 1, by omega, by go_num, HO7, B6, HR6⟩, by simp [RowKit.intOf]; omega⟩
            | true =>
              have hlen9 : (Z ++ (rowTo (frs L) x a j).map (fun i => (a, i))).length ≤ 1000000 := by
                rw [List.length_append, List.length_map]
                have := rowTo_len (frs L) x a j
                omega
              obtain ⟨v7, w7, hrun7, ho7, hb7⟩ := push_rhit HO6.out B6.out.size hlen9 a j
              have e9 : Z ++ (rowTo (frs L) x a j).map (fun i => (a, i)) ++ [(a, j)] = Z ++ (rowTo (frs L) x a (j + 1)).map (fun i => (a, i)) := by
                rw [HS2.out, if_pos rfl]; simp
              have e10 : (Z ++ (rowTo (frs L) x a j).map (fun i => (a, i))).length + 1 = (Z ++ (rowTo (frs L) x a (j + 1)).map (fun i => (a, i))).length := (by rw [List.length_append (bs := [(a, j)])]; rfl : _ = (Z ++ (rowTo (frs L) x a j).map (fun i => (a, i)) ++ [(a, j)]).length).trans (congrArg List.length e9)
              rw [e9, e10] at ho7
              have HO7 := Lib.hid ho7
              have HB7 := Lib.hid (B6.out.trans hb7)
              have h7 : Runs w7 (.slice A n c) x := HR.out.below HB7.out
              have HR7 := Lib.hid h7
              have H7 := Lib.hid hrun7
              clear hrun7 ho7 hb7 e9 e10 hlen9 h7
              go_wp2_with (at_builtin; refine wpList_append_run (.tmp 48) (.tmp 52) 35 _ _ _ _ H7.out rfl rfl rfl rfl ?_)
              exact ⟨⟨j + 1, by omega, by go_num, HO7, HB7, HR7⟩, by simp [RowKit.intOf]; omega⟩
          · obtain rfl : j = N := by omega
            have HE : Hid (wr.ownsRow w1.heap.size 79 2 u8 (hitsTo (atP (frs L) x) (a + 1)).length (gCells hitCell (hitsTo (atP (frs L) x) (a + 1)))) := Lib.hid (by
              rw [HSTT.out, ← rowTo_all, frs_len, HN.out]
              exact HO.out)
            go_wp2
            exact ⟨⟨a + 1, by omega, by go_num, HE, BW, HRw⟩, by simp [RowKit.intOf]; omega⟩
      · have a1 : ¬ (a : Int) ≤ (n : Int) := by omega
        have HE : Hid (HRuns wr u8 Y) := Lib.hid (by
          rw [HY.out, show hitsP (frs L) x = hitsTo (atP (frs L) x) a from by rw [show a = x.length + 1 by rw [HNx.out]; omega]; rfl]
          exact GRuns.of_own hit_len rfl HO.out)
        go_wp2
        go_ret2
        exact ⟨_, rfl, HE.out, HB.out.trans (BW.out.mono HB.out.size)⟩
end Go.Proofs.YtbbkkoeipkigdaaDoor

