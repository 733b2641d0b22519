/- Texts that several proofs of this seat share, one behind the other: BLaw1 HPair DEach DRen DTal DAdd DMk. -/
import Derived.Test.YtmfmbmlfdlebfaaDoorPk12
import Derived.Test.YtmfmbmlfdlebfaaDoorPk11
import Derived.Test.YtmfmbmlfdlebfaaDoorPk10
import Derived.BigQuiet
import Derived.StillTailTactics
import Derived.BigRegion
/- BlockSteps, BlockPairs, BlockChecks, walked over what block's functions answer. -/
namespace Go.Proofs.YtmfmbmlfdlebfaaDoor
open Go.RowKit Go.Shelf

/-- What block's functions answer, in every world. -/
def OfAt (l : List St) : Prop := ∀ w u, Okw w → StRuns w u l → Calls Tryd.prog 42 #[u] w fun e w' => ∃ v, e = .returned (.tuple #[v, .int .i64 (stErr l)]) ∧ BRuns w' v (ofS l) ∧ Below w.heap.size w w'
def PairAt (s t : ByteArray) : Prop := ∀ w, Okw w → Calls Tryd.prog 25 #[.string s, .string t] w fun e w' => ∃ v, e = .returned (.tuple #[v, .int .i64 (tokErr2 s.data.toList t.data.toList)]) ∧ BRuns w' v (ofS (stepsS s.data.toList t.data.toList)) ∧ Below w.heap.size w w'
def ChkAt (b : Blk) : Prop := ∀ w, Okw w → Calls Tryd.prog 43 #[.agg #[.string b.1, .string b.2.1, .int .i64 b.2.2]] w fun e w' => e = .returned (.int .i64 (chkS b)) ∧ Below w.heap.size w w'
def LessAt (a b : Blk) : Prop := ∀ w, Okw w → Calls Tryd.prog 36 #[.agg #[.string a.1, .string a.2.1, .int .i64 a.2.2], .agg #[.string b.1, .string b.2.1, .int .i64 b.2.2]] w fun e w' => e = .returned (.bool (lessB a b)) ∧ Below w.heap.size w w'

end Go.Proofs.YtmfmbmlfdlebfaaDoor

/- block.Pair: the blocks of two tokens, or why one of them is none; what block's functions answer, in every world; the examples of layer 5. -/
namespace Go.Proofs.YtmfmbmlfdlebfaaDoor
open Go.RowKit Go.Shelf

theorem of_at (l : List St) (hl : l.length ≤ 1000000) (hf : stFit l) : OfAt l := by
  intro w u h hu
  refine (of_own u l w h hu hl hf).mono ?_
  rintro e w' ⟨v, rfl, hrow, hb⟩
  exact ⟨v, rfl, GRuns.of_own blk_len rfl hrow, hb⟩
theorem chk_at (b : Blk) (h1 : b.1.size * 4 ≤ 140737488355328) (h2 : b.2.1.size * 4 ≤ 140737488355328) : ChkAt b := fun w h => chk_any b.1 b.2.1 b.2.2 w h h1 h2
theorem less_at (a b : Blk) : LessAt a b := fun w _ => less_any a.1 a.2.1 b.1 b.2.1 a.2.2 b.2.2 w

set_option maxRecDepth 100000 in
set_option maxHeartbeats 2000000 in
theorem pair_at (s t : ByteArray) (hs : s.size * 4 ≤ 140737488355328) (ht : t.size * 4 ≤ 140737488355328) : PairAt s t := by
  intro w h
  have c := steps_any s t hs ht w h
  by_cases h2 : tokErr2 s.data.toList t.data.toList = 0
  · obtain ⟨_, _, f3, _, f5, f6, _⟩ := steps_facts s.data.toList t.data.toList h2
    have cO := of_at (stepsS s.data.toList t.data.toList) (by omega) f5
    unfold OfAt at cO
    rw [f3] at cO
    rw [h2] at c ⊢
    clear f3 f5 f6 h2
    obtain ⟨l, hl⟩ : ∃ l, stepsS s.data.toList t.data.toList = l := ⟨_, rfl⟩
    rw [hl] at c cO ⊢
    clear hl
    obtain ⟨X, hX⟩ : ∃ X, ofS l = X := ⟨_, rfl⟩
    rw [hX] at cO ⊢
    clear hX
    have C := Lib.hid c; have CO := Lib.hid cO
    clear c cO
    go_enter Tryd.func25, Tryd.ntmps25
    go_wp2_with fail
    refine C.out.mono ?_
    rintro e w1 ⟨v, rfl, r1, b1⟩
    have R1 := Lib.hid r1; have B1 := Lib.hid b1
    obtain ⟨A, cc, rfl, _⟩ := r1
    clear b1
    go_wp2_with fail
    refine (CO.out _ _ (h.below B1.out) R1.out).mono ?_
    rintro e w2 ⟨v2, rfl, r2, b2⟩
    have R2 := Lib.hid r2
    have B2 := Lib.hid (B1.out.trans (b2.mono B1.out.size))
    obtain ⟨A2, c2, rfl⟩ := r2.slice
    clear b2 r2
    go_wp2
    go_ret2
    exact ⟨_, rfl, R2.out, B2.out⟩
  · have e3 : ofS (stepsS s.data.toList t.data.toList) = [] := by rw [stepsS, if_neg h2]; simp [ofS, rowsP_nil]
    rw [e3]
    clear e3
    obtain ⟨er, he⟩ : ∃ er, tokErr2 s.data.toList t.data.toList = er := ⟨_, rfl⟩
    rw [he] at h2 c ⊢
    clear he
    have hz : (er == 0) = false := by simpa using h2
    have C := Lib.hid c; clear c
    go_enter Tryd.func25, Tryd.ntmps25
    go_wp2_with fail
    refine C.out.mono ?_
    rintro e w1 ⟨v, rfl, r1, b1⟩
    have B1 := Lib.hid b1
    obtain ⟨A, cc, rfl, _⟩ := r1
    clear b1
    go_wp2
    go_ret2
    exact ⟨_, rfl, GRuns.nil_ _ _ _, B1.out⟩

theorem ex5 : tokErr2 [97, 114, 110] [97, 109] = 0 ∧ ofS (stepsS [97, 114, 110] [97, 109]) = [(⟨#[114, 110]⟩, ⟨#[109]⟩, 1)] := by
  have e1 : tokErr [97, 114, 110] = 0 := by decide +kernel
  have e2 : tokErr [97, 109] = 0 := by decide +kernel
  have e3 : tokErr2 [97, 114, 110] [97, 109] = 0 := tokErr2_of e1 e2
  have r1 : tokRunes [97, 114, 110] = [97, 114, 110] := by decide +kernel
  have r2 : tokRunes [97, 109] = [97, 109] := by decide +kernel
  refine ⟨e3, ?_⟩
  have l1 : levR [110, 114, 97] [109, 97] = 2 := by simp [levR_cons, levR_nil, levR_nil']
  have l2 : levR [114, 97] [97] = 1 := by simp [levR_cons, levR_nil, levR_nil']
  have l3 : levR [97] [97] = 0 := by simp [levR_cons, levR_nil, levR_nil']
  have l4 : levR [97] [] = 1 := by simp [levR_nil']
  have p : (pathR [110, 114, 97] [109, 97]).reverse = [(0, 97, 97), (2, 114, 0), (1, 110, 109)] := by
    rw [pathR_sub (by decide) (by rw [l1, l2]), pathR, if_neg (by decide), if_neg (by rw [l2, l4]; decide), if_pos (by rw [l2, l3]), pathR_same, pathR]
    rfl
  have hs : stepsS [97, 114, 110] [97, 109] = [(0, 97, 97), (2, 114, 0), (1, 110, 109)] := by
    rw [stepsS, if_pos e3, r1, r2]; exact p
  rw [hs]
  have hr : rowsP [((0 : Int), (97 : Int), (97 : Int)), (2, 114, 0), (1, 110, 109)] = [[(2, 114, 0), (1, 110, 109)]] := by
    rw [rowsP_match rfl, rowsP_one (by simp) (by simp)]
  rw [ofS, if_pos (by decide +kernel), hr]
  have hA : readA [(2, 114, 0), (1, 110, 109)] = [114, 110] := by decide +kernel
  have hB : readB [(2, 114, 0), (1, 110, 109)] = [109] := by decide +kernel
  have hl : longB [(2, 114, 0), (1, 110, 109)] = false := by decide +kernel
  have hd : diffB [(2, 114, 0), (1, 110, 109)] = true := by decide +kernel
  simp [hl, hd, blkOf, hA, hB, mkB]

end Go.Proofs.YtmfmbmlfdlebfaaDoor

/- count.each, sum, Check, Total: what each answers. -/
namespace Go.Proofs.YtmfmbmlfdlebfaaDoor
open Go.RowKit Go.Shelf
set_option linter.unusedSimpArgs false
set_option linter.unusedVariables false

/-- Blocks whose texts are no longer than so much. -/
def szL (l : List Blk) : Prop := ∀ b ∈ l, b.1.size ≤ 2000000 ∧ b.2.1.size ≤ 2000000
theorem szL_of {l : List Blk} (h : szB l) : szL l := fun b hb => by have := h b hb; omega
theorem sumN_take_le {l : List Blk} (h : posN l) (k : Nat) : sumN (l.take k) ≤ sumN l := by
  have e : sumN l = sumN (l.take k) + sumN (l.drop k) := by rw [← sumN_append, List.take_append_drop]
  have := sumN_nonneg (l := l.drop k) (fun b hb => h b (List.mem_of_mem_drop hb))
  omega

set_option maxRecDepth 100000 in
set_option maxHeartbeats 8000000 in
theorem each_any (u : Value) (l : List Blk) (w : World) (hO : Okw w) (hu : BRuns w u l) (hl : l.length ≤ 2000000) (hz : szL l) :
    Calls Tryd.prog 26 #[u] w fun e w' => e = .returned (.int .i64 (chkAll l)) ∧ Below w.heap.size w w' := by
  obtain ⟨A, c, e⟩ := hu.slice
  subst e
  have HU := Lib.hid hu; clear hu
  have HOK := Lib.hid hO; clear hO
  obtain ⟨n, hn⟩ : ∃ n, l.length = n := ⟨_, rfl⟩
  obtain ⟨res, hres⟩ : ∃ r, chkAll l = r := ⟨_, rfl⟩
  rw [hres]
  have HT := Lib.hid hres; clear hres
  rw [hn] at hl HU ⊢
  have HN := Lib.hid hn; clear hn
  have HZ := Lib.hid hz; clear hz
  have C5 : Hid (∀ b : Blk, b.1.size ≤ 2000000 → b.2.1.size ≤ 2000000 → ChkAt b) := Lib.hid (fun b h1 h2 => chk_at b (by omega) (by omega))
  go_enter Tryd.func26, Tryd.ntmps26
  go_wp2
  go_loopw [8] (fun s8 wr => ∃ k : Nat, k ≤ n ∧ s8 = .int .i64 k ∧ Hid (chkAll (l.take k) = 0) ∧ Hid (Below w.heap.size w wr)) (fun s8 _ => n - (RowKit.intOf s8).toNat)
  case atStart => exact ⟨0, Nat.zero_le _, rfl, Lib.hid rfl, Lib.hid (Below.refl _ _)⟩
  case round =>
    obtain ⟨k, hkn, rfl, HC, BW⟩ := hrel
    by_cases hk : k < n
    · have k1 : (k : Int) < (n : Int) := by omega
      obtain ⟨⟨p1, p2, p3⟩, hp⟩ : ∃ p, l[k]? = some p := ⟨_, List.getElem?_eq_getElem (by rw [HN.out]; exact hk)⟩
      obtain ⟨b, o, rfl, _, hc⟩ := (HU.out.below BW.out).cells HN.out (by omega)
      obtain ⟨g0, g1, g2⟩ := blk_cells hc hp
      simp only at g0 g1 g2
      have hz1 := HZ.out _ (List.mem_of_getElem? hp)
      have hch := chkAll_take k _ hp HC.out
      simp only at hz1
      obtain ⟨er, her⟩ : ∃ z, chkS (p1, p2, p3) = z := ⟨_, rfl⟩
      rw [her] at hch
      have HCH := Lib.hid hch
      have hal : Hid (Below w.heap.size w (wr.alloc (.cells #[.string p1, .string p2, .int .i64 p3] 43))) := Lib.hid (BW.out.alloc BW.out.size _)
      have c5 := C5.out (p1, p2, p3) hz1.1 hz1.2 (wr.alloc (.cells #[.string p1, .string p2, .int .i64 p3] 43)) (HOK.out.below hal.out)
      simp only [her] at c5
      have CC := Lib.hid c5
      clear hc hp hch c5 her
      go_wp2_with fail
      refine CC.out.mono ?_
      rintro e w5 ⟨rfl, b5⟩
      have B5 : Hid (Below w.heap.size w w5) := Lib.hid (hal.out.trans (b5.mono hal.out.size))
      clear b5
      by_cases h0 : er = 0
      · subst h0
        go_wp2
        exact ⟨⟨k + 1, by omega, by go_num, Lib.hid (HCH.out.1 (by first | rfl | trivial)), B5⟩, by simp [RowKit.intOf]; omega⟩
      · have h0' : (er == 0) = false := by simpa using h0
        have hr : Hid (res = er) := Lib.hid (by rw [← HT.out]; exact HCH.out.2 h0)
        go_wp2
        go_ret
        exact ⟨by rw [hr.out]; rfl, B5.out⟩
    · obtain rfl : k = n := by omega
      have hr : Hid (res = 0) := Lib.hid (by have := HC.out; rw [← HN.out, List.take_length] at this; rw [← HT.out]; exact this)
      clear HC
      go_wp2
      go_ret
      exact ⟨by rw [hr.out]; rfl, BW.out⟩

set_option maxRecDepth 100000 in
set_option maxHeartbeats 8000000 in
/-- The Ns together, where a table may have so many. -/
theorem sum_any (u : Value) (l : List Blk) (w : World) (hu : BRuns w u l) (hl : l.length ≤ 2000000) (hok : okN l) :
    Calls Tryd.prog 33 #[u] w fun e w' => ((sumN l ≤ 1073741824 ∧ e = .returned (.tuple #[.int .i64 (sumN l), .bool true])) ∨ (1073741824 < sumN l ∧ e = .returned (.tuple #[.int .i64 0, .bool false]))) ∧ Below w.heap.size w w' := by
  obtain ⟨A, c, e⟩ := hu.slice
  subst e
  have HU := Lib.hid hu; clear hu
  have hle := sumN_take_le (l := l) (fun b hb => (hok b hb).1)
  have h00 : ∀ k, 0 ≤ sumN (l.take k) := fun k => sumN_nonneg (fun b hb => (hok b (List.mem_of_mem_take hb)).1)
  obtain ⟨tot, htot⟩ : ∃ t, sumN l = t := ⟨_, rfl⟩
  have hfin : sumN (l.take l.length) = tot := by rw [List.take_length]; exact htot
  simp only [htot] at hle
  rw [htot]
  clear htot
  obtain ⟨n, hn⟩ : ∃ n, l.length = n := ⟨_, rfl⟩
  rw [hn] at hl HU hfin ⊢
  have HN := Lib.hid hn; clear hn
  obtain ⟨sm, hsm⟩ : ∃ f, f = fun k => sumN (l.take k) := ⟨_, rfl⟩
  have hst : ∀ k x, l[k]? = some x → sm (k + 1) = sm k + x.2.2 := fun k x hx => by rw [hsm]; exact sumN_take k x hx
  have hb' : ∀ k, 0 ≤ sm k ∧ sm k ≤ tot := fun k => by rw [hsm]; exact ⟨h00 k, hle k⟩
  have h0 : sm 0 = 0 := by rw [hsm]; simp [sumN]
  have hgo : sm n = tot := by rw [hsm]; exact hfin
  clear hfin hle h00 hsm
  have ST := Lib.hid hst; have BD := Lib.hid hb'; have OK := Lib.hid hok; have HGO := Lib.hid hgo
  clear hst hb' hok hgo
  go_enter Tryd.func33, Tryd.ntmps33
  go_wp2
  go_loopw [4, 9] (fun s4 s9 wr => ∃ k : Nat, k ≤ n ∧ s9 = .int .i64 k ∧ s4 = .int .i64 (sm k) ∧ sm k ≤ 1073741824 ∧ Hid (Below w.heap.size w wr)) (fun _ s9 _ => n - (RowKit.intOf s9).toNat)
  case atStart => exact ⟨0, Nat.zero_le _, rfl, by rw [h0], by rw [h0]; decide, Lib.hid (Below.refl _ _)⟩
  case round =>
    obtain ⟨k, hkn, rfl, rfl, hs, BW⟩ := hrel
    have bk := BD.out k
    obtain ⟨s, es⟩ : ∃ s, sm k = s := ⟨_, rfl⟩
    rw [es] at hs bk ⊢
    have HES := Lib.hid es; clear es
    by_cases hk : k < n
    · have k1 : (k : Int) < (n : Int) := by omega
      obtain ⟨⟨p1, p2, p3⟩, hp⟩ : ∃ p, l[k]? = some p := ⟨_, List.getElem?_eq_getElem (by rw [HN.out]; exact hk)⟩
      obtain ⟨b, o, rfl, _, hc⟩ := (HU.out.below BW.out).cells HN.out (by omega)
      obtain ⟨g0, g1, g2⟩ := blk_cells hc hp
      simp only at g0 g1 g2
      have hs1 := ST.out k _ hp
      have hN3 := OK.out _ (List.mem_of_getElem? hp)
      have bk1 := BD.out (k + 1)
      simp only at hs1 hN3
      rw [HES.out] at hs1
      have HS1 := Lib.hid hs1
      rw [hs1] at bk1
      have hal : Hid (Below w.heap.size w (wr.alloc (.cells #[.string p1, .string p2, .int .i64 p3] 43))) := Lib.hid (BW.out.alloc BW.out.size _)
      have hwr : IntKind.i64.wrap (1073741824 - s) = 1073741824 - s := by rw [IntKind.wrap_i64]; omega
      have hwr2 : IntKind.i64.wrap (s + p3) = s + p3 := by rw [IntKind.wrap_i64]; omega
      clear hc hp hs1
      by_cases hg : 1073741824 - s < p3
      · have BK := Lib.hid bk1; clear bk1
        go_wp2
        go_ret2
        exact ⟨.inr ⟨by have := BK.out; omega, rfl⟩, hal.out⟩
      · have HG := Lib.hid hg
        clear bk1
        go_wp2
        exact ⟨⟨k + 1, by omega, by go_num, by rw [HS1.out], by rw [HS1.out]; omega, hal⟩, by simp [RowKit.intOf]; omega⟩
    · obtain rfl : k = n := by omega
      have he : Hid (s = tot) := Lib.hid (by rw [← HES.out]; exact HGO.out)
      go_wp2
      go_ret2
      exact ⟨.inl ⟨by rw [← he.out]; exact hs, by rw [← he.out]; rfl⟩, BW.out⟩

set_option maxRecDepth 100000 in
set_option maxHeartbeats 8000000 in
theorem check6_any (u : Value) (l : List Blk) (w : World) (hO : Okw w) (hu : BRuns w u l) (hl : l.length ≤ 2000000) (hz : szL l) :
    Calls Tryd.prog 19 #[u] w fun e w' => e = .returned (.int .i64 (chkT l)) ∧ Below w.heap.size w w' := by
  obtain ⟨A, c, e⟩ := hu.slice
  subst e
  have ce := fun w hO hu => each_any (.slice A l.length c) l w hO hu hl hz
  have cs := fun w hu hok => sum_any (.slice A l.length c) l w hu hl hok
  have HU := Lib.hid hu; clear hu
  have HOK := Lib.hid hO; clear hO
  obtain ⟨n, hn⟩ : ∃ n, l.length = n := ⟨_, rfl⟩
  have hT : chkT l = if chkAll l = 0 then (if ordB l then (if 4096 < n ∨ 1073741824 < sumN l then 6 else 0) else 7) else chkAll l := by rw [chkT, hn]
  obtain ⟨res, hres⟩ : ∃ r, chkT l = r := ⟨_, rfl⟩
  obtain ⟨ea, hea⟩ : ∃ r, chkAll l = r := ⟨_, rfl⟩
  obtain ⟨tot, htot⟩ : ∃ r, sumN l = r := ⟨_, rfl⟩
  have HK : Hid (ea = 0 → okN l) := Lib.hid (fun h => okN_of (by rw [hea]; exact h))
  rw [hres] at hT ⊢
  simp only [hea, hn] at ce
  simp only [htot, hn] at cs
  rw [hea, htot] at hT
  have HT := Lib.hid hT; clear hT hres hea htot
  rw [hn] at hl HU ⊢
  have HN := Lib.hid hn; clear hn
  have CE := Lib.hid ce; have CS := Lib.hid cs; clear ce cs hz
  have CL := Lib.hid less_any
  go_enter Tryd.func19, Tryd.ntmps19
  go_wp2_with fail
  refine (CE.out _ HOK.out HU.out).mono ?_
  rintro e w1 ⟨rfl, b1⟩
  have B1 := Lib.hid b1; clear b1
  by_cases h0 : ea = 0
  · subst h0
    go_wp2
    go_loopw [4] (fun s4 wr => ∃ j : Nat, 1 ≤ j ∧ (j ≤ n ∨ j = 1) ∧ s4 = .int .i64 j ∧ Hid (ordB (l.take j) = true) ∧ Hid (Below w.heap.size w wr)) (fun s4 _ => n - (RowKit.intOf s4).toNat)
    case atStart => exact ⟨1, Nat.le_refl _, .inr rfl, rfl, Lib.hid (ordB_one l), B1⟩
    case round =>
      obtain ⟨j, hj1, hjn, rfl, HO, BW2⟩ := hrel
      by_cases hj : j < n
      · have j1 : (j : Int) < (n : Int) := by omega
        obtain ⟨i, hi⟩ : ∃ i : Nat, (j : Int) - 1 = (i : Int) := ⟨j - 1, by omega⟩
        have ei : j = i + 1 := by omega
        have EI := Lib.hid ei
        obtain ⟨⟨y1, y2, y3⟩, hy⟩ : ∃ p, l[i]? = some p := ⟨_, List.getElem?_eq_getElem (by rw [HN.out]; omega)⟩
        obtain ⟨⟨x1, x2, x3⟩, hx⟩ : ∃ p, l[j]? = some p := ⟨_, List.getElem?_eq_getElem (by rw [HN.out]; omega)⟩
        have RW := Lib.hid (HU.out.below BW2.out)
        obtain ⟨b, o, rfl, hblt, hc⟩ := RW.out.cells HN.out (by omega)
        obtain ⟨g0, g1, g2⟩ := blk_cells hc hy
        obtain ⟨g3, g4, g5⟩ := blk_cells hc hx
        simp only at g0 g1 g2 g3 g4 g5
        have hor := ordB_take i (y1, y2, y3) (x1, x2, x3) hy (by rw [← ei]; exact hx) (by rw [← ei]; exact HO.out)
        have c5 := fun w => CL.out y1 y2 x1 x2 y3 x3 w
        obtain ⟨le, hle⟩ : ∃ z, lessB (y1, y2, y3) (x1, x2, x3) = z := ⟨_, rfl⟩
        simp only [hle] at c5 hor
        have HOR := Lib.hid hor; have C := Lib.hid c5
        clear hc hy hx hor c5 hle ei HO
        have i0 : (0 : Int) < (j : Int) := by omega
        have i1 : (i : Int) < (n : Int) := by omega
        have hwr : IntKind.i64.wrap ((j : Int) - 1) = (i : Int) := by rw [IntKind.wrap_i64]; omega
        have hwi : IntKind.i64.wrap (i : Int) = (i : Int) := by rw [IntKind.wrap_i64]; omega
        have i2 : (0 : Int) ≤ (i : Int) := by omega
        have KD : Hid (KRow w b (o + i * 3) (o + j * 3) (y1, y2, y3) (x1, x2, x3) wr.drew) := Lib.hid ⟨g0, g1, g2, g3, g4, g5, hblt, BW2.out.drew⟩
        go_wp2
        go_region_held3 (fun w' => w'.cell? ⟨b, o + i * 3, none⟩ = some (.string y1) ∧ w'.cell? ⟨b, o + i * 3 + 1, none⟩ = some (.string y2) ∧ w'.cell? ⟨b, o + i * 3 + 2, none⟩ = some (.int .i64 y3) ∧ w'.cell? ⟨b, o + j * 3, none⟩ = some (.string x1) ∧ w'.cell? ⟨b, o + j * 3 + 1, none⟩ = some (.string x2) ∧ w'.cell? ⟨b, o + j * 3 + 2, none⟩ = some (.int .i64 x3) ∧ Hid (KRow w b (o + i * 3) (o + j * 3) (y1, y2, y3) (x1, x2, x3) w'))
          (first | exact ⟨g0, g1, g2, g3, g4, g5, KD⟩ | exact ⟨HKn.out.a0, HKn.out.a1, HKn.out.a2, HKn.out.b0, HKn.out.b1, HKn.out.b2, HKn⟩ | go_keep)
          (first
            | (go_at_call 36; refine (C.out _).mono ?_; rintro e w4 ⟨rfl, hb4⟩; have HKn := Lib.hid ((by assumption : Hid (KRow w b (o + i * 3) (o + j * 3) (y1, y2, y3) (x1, x2, x3) _)).out.step hb4); clear hb4))
        rename_i hHeld
        clear hHeld
        have B4 : Hid (Below w.heap.size w w4) := Lib.hid HKn.out.bel
        cases le
        · have hr : Hid (res = 7) := Lib.hid (by rw [HT.out, if_pos (by first | rfl | trivial), if_neg (by rw [HOR.out.2 rfl]; simp)])
          go_wp2
          go_ret
          exact ⟨by rw [hr.out]; rfl, B4.out⟩
        · go_wp2
          exact ⟨⟨j + 1, by omega, by omega, by go_num, Lib.hid (by have := HOR.out.1 rfl; rwa [← EI.out] at this), B4⟩, by simp [RowKit.intOf]; omega⟩
      · have hj' : ¬ (j : Int) < (n : Int) := by omega
        have HO0 : Hid (ordB l = true) := Lib.hid (by have := HO.out; rwa [List.take_of_length_le (by rw [HN.out]; omega)] at this)
        clear HO B1
        have U2 := Lib.hid (HU.out.below BW2.out)
        go_wp2_with fail
        refine (CS.out _ U2.out (HK.out (by first | rfl | trivial))).mono ?_
        rintro e w3 ⟨hc3, b3⟩
        have B3 : Hid (Below w.heap.size w w3) := Lib.hid (BW2.out.trans (b3.mono BW2.out.size))
        clear b3
        rcases hc3 with ⟨ht, rfl⟩ | ⟨ht, rfl⟩
        · by_cases hbig : 4096 < n
          · have hb1 : (4096 : Int) < (n : Int) := by omega
            have hr : Hid (res = 6) := Lib.hid (by rw [HT.out, if_pos (by first | rfl | trivial), if_pos HO0.out, if_pos (.inl hbig)])
            go_wp2
            go_ret
            exact ⟨by rw [hr.out]; rfl, B3.out⟩
          · have hb1 : ¬ (4096 : Int) < (n : Int) := by omega
            have hr : Hid (res = 0) := Lib.hid (by rw [HT.out, if_pos (by first | rfl | trivial), if_pos HO0.out, if_neg (by omega)])
            go_wp2
            go_ret
            exact ⟨by rw [hr.out]; rfl, B3.out⟩
        · have hr : Hid (res = 6) := Lib.hid (by rw [HT.out, if_pos (by first | rfl | trivial), if_pos HO0.out, if_pos (.inr ht)])
          go_wp2
          go_ret
          exact ⟨by rw [hr.out]; rfl, B3.out⟩
  · have h0' : (ea == 0) = false := by simpa using h0
    have hr : Hid (res = ea) := Lib.hid (by rw [HT.out, if_neg h0])
    go_wp2
    go_ret
    exact ⟨by rw [hr.out]; rfl, B1.out⟩

set_option maxRecDepth 100000 in
set_option maxHeartbeats 4000000 in
theorem total_any (u : Value) (l : List Blk) (w : World) (hO : Okw w) (hu : BRuns w u l) (hl : l.length ≤ 2000000) (hz : szL l) :
    Calls Tryd.prog 14 #[u] w fun e w' => e = .returned (.tuple #[.int .i64 (totS l), .int .i64 (chkT l)]) ∧ Below w.heap.size w w' := by
  obtain ⟨A, c, e⟩ := hu.slice
  subst e
  have ce := fun w hO hu => check6_any (.slice A l.length c) l w hO hu hl hz
  have cs := fun w hu hok => sum_any (.slice A l.length c) l w hu hl hok
  have HU := Lib.hid hu; clear hu
  have HOK := Lib.hid hO; clear hO
  have hT : totS l = if chkT l = 0 then sumN l else 0 := rfl
  obtain ⟨res, hres⟩ : ∃ r, totS l = r := ⟨_, rfl⟩
  obtain ⟨ea, hea⟩ : ∃ r, chkT l = r := ⟨_, rfl⟩
  obtain ⟨tot, htot⟩ : ∃ r, sumN l = r := ⟨_, rfl⟩
  have HK : Hid (ea = 0 → okN l ∧ tot ≤ 1073741824) := Lib.hid (fun h => by
    have := chkT_facts (l := l) (by rw [hea]; exact h)
    exact ⟨okN_of this.1, by rw [← htot]; exact this.2.2.2⟩)
  rw [hres] at hT ⊢
  rw [hea] at hT ⊢
  rw [htot] at hT
  simp only [hea] at ce
  simp only [htot] at cs
  have HT := Lib.hid hT; clear hT hres hea htot
  obtain ⟨n, hn⟩ : ∃ n, l.length = n := ⟨_, rfl⟩
  simp only [hn] at ce cs
  rw [hn] at hl HU ⊢
  have CE := Lib.hid ce; have CS := Lib.hid cs; clear ce cs hz hn
  go_enter Tryd.func14, Tryd.ntmps14
  go_wp2_with fail
  refine (CE.out _ HOK.out HU.out).mono ?_
  rintro e w1 ⟨rfl, b1⟩
  have U1 := Lib.hid (HU.out.below b1)
  have B1 := Lib.hid b1; clear b1
  by_cases h0 : ea = 0
  · subst h0
    have hk := HK.out (by first | rfl | trivial)
    have HK1 := Lib.hid hk.1
    have hk2 := hk.2
    clear hk
    go_wp2_with fail
    refine (CS.out _ U1.out HK1.out).mono ?_
    rintro e w3 ⟨hc3, b3⟩
    have B3 : Hid (Below w.heap.size w w3) := Lib.hid (B1.out.trans (b3.mono B1.out.size))
    clear b3
    rcases hc3 with ⟨ht, rfl⟩ | ⟨ht, rfl⟩
    · have hr : Hid (res = tot) := Lib.hid (by rw [HT.out, if_pos (by first | rfl | trivial)])
      go_wp2
      go_ret2
      exact ⟨by rw [hr.out]; rfl, B3.out⟩
    · exact absurd ht (by omega)
  · have h0' : (ea == 0) = false := by simpa using h0
    have hr : Hid (res = 0) := Lib.hid (by rw [HT.out, if_neg h0])
    go_wp2
    go_ret2
    exact ⟨by rw [hr.out]; rfl, B1.out⟩
end Go.Proofs.YtmfmbmlfdlebfaaDoor

/- strings.Clone, count.renew: blocks get texts of their own; what they say stays. -/
namespace Go.Proofs.YtmfmbmlfdlebfaaDoor
open Go.RowKit Go.Shelf
set_option linter.unusedSimpArgs false
set_option linter.unusedVariables false

set_option maxRecDepth 100000 in
theorem clone_any (s : ByteArray) (w : World) (h : s.size ≤ 2000000) : Calls Tryd.prog 47 #[.string s] w fun e w' => e = .returned (.string s) ∧ Below w.heap.size w w' := by
  have c := Tryd.stringslite_Clone s w (by omega)
  have C := Lib.hid c; clear c
  go_enter Tryd.func47, Tryd.ntmps47
  go_wp2_with fail
  refine C.out.mono ?_
  rintro e w1 ⟨rfl, b1⟩
  have B1 := Lib.hid b1; clear b1
  go_wp2
  go_ret
  exact ⟨rfl, B1.out⟩

/-- A store of what is there. -/
theorem set_same {w : World} {g j : Nat} {u : Value} (h : w.cell? ⟨g, j, none⟩ = some u) : w.setCell ⟨g, j, none⟩ u = w := by
  have hm : (w.heap.modify g fun
      | .cells c elem frozen => .cells (if (⟨g, j, none⟩ : Addr).spot.isSome then c else c.setIfInBounds j u) elem frozen
      | o => o) = w.heap := by
    apply Array.ext
    · simp
    · intro i h1 h2
      rw [Array.getElem_modify]
      split
      · rename_i e
        subst e
        unfold World.cell? at h
        simp only at h
        rw [Array.getElem?_eq_getElem h2] at h
        generalize w.heap[g] = ob at h ⊢
        cases ob with
        | cells cs t fr =>
          simp only [Option.isSome_none] at h ⊢
          congr 1
          apply Array.ext
          · simp
          · intro k k1 k2
            simp only [Bool.false_eq_true, if_false]
            rw [Array.getElem_setIfInBounds]
            split
            · rename_i e
              subst e
              have h' : cs[j]? = some u := by simpa using h
              rw [Array.getElem?_eq_getElem k2] at h'
              exact (Option.some.inj h').symm
            · rfl
        | _ => rfl
      · rfl
  unfold World.setCell
  exact congrArg (fun hp => { w with heap := hp }) hm

/-- What the region keeps: the block in the row, its copy, all that is old. -/
structure RenK (w : World) (g p c : Nat) (x : Blk) (w' : World) : Prop where
  a0 : w'.cell? ⟨g, p, none⟩ = some (.string x.1)
  a1 : w'.cell? ⟨g, p + 1, none⟩ = some (.string x.2.1)
  b0 : w'.cell? ⟨c, 0, none⟩ = some (.string x.1)
  b1 : w'.cell? ⟨c, 1, none⟩ = some (.string x.2.1)
  f0 : w'.frozen? ⟨g, p, none⟩ = false
  f1 : w'.frozen? ⟨g, p + 1, none⟩ = false
  lt : g < w'.heap.size
  ltc : c < w'.heap.size
  bel : Below w.heap.size w w'
theorem RenK.step {w : World} {g p c : Nat} {x : Blk} {w' w'' : World} (h : RenK w g p c x w') (hb : Below w'.heap.size w' w'') : RenK w g p c x w'' :=
  ⟨(hb.cell (p := ⟨g, _, none⟩) h.lt).trans h.a0, (hb.cell (p := ⟨g, _, none⟩) h.lt).trans h.a1, (hb.cell (p := ⟨c, _, none⟩) h.ltc).trans h.b0, (hb.cell (p := ⟨c, _, none⟩) h.ltc).trans h.b1, (hb.frozen (p := ⟨g, _, none⟩) h.lt).trans h.f0, (hb.frozen (p := ⟨g, _, none⟩) h.lt).trans h.f1, Nat.lt_of_lt_of_le h.lt hb.size, Nat.lt_of_lt_of_le h.ltc hb.size, h.bel.trans (hb.mono h.bel.size)⟩

set_option maxRecDepth 100000 in
set_option maxHeartbeats 8000000 in
theorem renew_any (u : Value) (l : List Blk) (n : Nat) (w : World) (hn : l.length = n) (hg : BRuns w u l) (hsh : n = 0 ∨ ∃ g c, u = .slice (some ⟨g, 0, none⟩) n c ∧ ∀ j, j < n * 3 → w.frozen? ⟨g, j, none⟩ = false) (hl : n ≤ 2000000) (hz : szL l) :
    Calls Tryd.prog 39 #[u] w fun e w' => e = .returned (.tuple #[]) ∧ Below w.heap.size w w' := by
  obtain ⟨A, c, e⟩ := hg.slice
  subst e
  rw [hn] at hg hsh ⊢
  have HG := Lib.hid hg; have HO := Lib.hid hsh; have HN := Lib.hid hn; have HZ := Lib.hid hz
  clear hg hsh hn hz
  have CL := Lib.hid clone_any
  go_enter Tryd.func39, Tryd.ntmps39
  go_wp2
  go_loopw [6] (fun s6 wr => ∃ k : Nat, k ≤ n ∧ s6 = .int .i64 k ∧ Hid (Below w.heap.size w wr)) (fun s6 _ => n - (RowKit.intOf s6).toNat)
  case atStart => exact ⟨0, Nat.zero_le _, rfl, Lib.hid (Below.refl _ _)⟩
  case round =>
    obtain ⟨k, hkn, rfl, BW⟩ := hrel
    by_cases hk : k < n
    · have k1 : (k : Int) < (n : Int) := by omega
      obtain ⟨⟨p1, p2, p3⟩, hp⟩ : ∃ p, l[k]? = some p := ⟨_, List.getElem?_eq_getElem (by rw [HN.out]; exact hk)⟩
      obtain ⟨g, rfl, OW⟩ : ∃ g, A = some ⟨g, 0, none⟩ ∧ ∀ j, j < n * 3 → w.frozen? ⟨g, j, none⟩ = false := by
        rcases HO.out with h0 | ⟨g, c', e, hf⟩
        · omega
        · obtain ⟨e1, _, _⟩ := Value.slice.inj e
          exact ⟨g, e1, hf⟩
      obtain ⟨b'', o'', eb'', hglw, _⟩ := HG.out.cells HN.out (by omega)
      obtain rfl : g = b'' := by
        have := Option.some.inj eb''
        simp only [Addr.mk.injEq] at this
        exact this.1
      obtain ⟨b', o', eb, hglt, hc⟩ := (HG.out.below BW.out).cells HN.out (by omega)
      have eb1 := Option.some.inj eb
      simp only [Addr.mk.injEq] at eb1
      obtain ⟨rfl, rfl, _⟩ := eb1
      obtain ⟨g0, g1, g2⟩ := blk_cells hc hp
      simp only [Nat.zero_add] at g0 g1 g2
      have fr0 : wr.frozen? ⟨g, k * 3, none⟩ = false := (BW.out.frozen (p := ⟨g, _, none⟩) hglw).trans (OW (k * 3) (by omega))
      have fr1 : wr.frozen? ⟨g, k * 3 + 1, none⟩ = false := (BW.out.frozen (p := ⟨g, _, none⟩) hglw).trans (OW (k * 3 + 1) (by omega))
      have hz1 := HZ.out _ (List.mem_of_getElem? hp)
      simp only at hz1
      have hal : Below wr.heap.size wr (wr.alloc (.cells #[.string p1, .string p2, .int .i64 p3] 43)) := (Below.refl _ _).alloc (Nat.le_refl _) _
      have e3 := heap_alloc_new wr (.cells #[.string p1, .string p2, .int .i64 p3] 43)
      obtain ⟨wa, hwa⟩ : ∃ z, wr.alloc (.cells #[.string p1, .string p2, .int .i64 p3] 43) = z := ⟨_, rfl⟩
      rw [hwa] at hal e3
      obtain ⟨bx, hbx⟩ : ∃ z, wr.heap.size = z := ⟨_, rfl⟩
      rw [hbx] at e3
      have c0 := cell_of_row wa bx 0 _ _ _ e3
      have c1 := cell_of_row wa bx 1 _ _ _ e3
      simp at c0 c1
      have KA : Hid (RenK w g (k * 3) bx (p1, p2, p3) wa) := Lib.hid ⟨(hal.cell (p := ⟨g, _, none⟩) hglt).trans g0, (hal.cell (p := ⟨g, _, none⟩) hglt).trans g1, c0, c1, (hal.frozen (p := ⟨g, _, none⟩) hglt).trans fr0, (hal.frozen (p := ⟨g, _, none⟩) hglt).trans fr1, Nat.lt_of_lt_of_le hglt hal.size, (Array.getElem?_eq_some_iff.1 e3).1, BW.out.trans (hal.mono BW.out.size)⟩
      have KD : Hid (RenK w g (k * 3) bx (p1, p2, p3) wa.drew) := Lib.hid (KA.out.step (Below.refl _ _).drew)
      have HWA := Lib.hid hwa; have HBX := Lib.hid hbx
      have C1 := Lib.hid (fun w => CL.out p1 w hz1.1); have C2 := Lib.hid (fun w => CL.out p2 w hz1.2)
      clear hc hp OW eb eb'' hglw hal e3 hwa hbx c0 c1 fr0 fr1
      go_wp2
      rw [HWA.out, HBX.out]
      clear g0 g1 g2
      have g0 := KD.out.a0; have g1 := KD.out.a1; have c0 := KD.out.b0; have c1 := KD.out.b1; have f0 := KD.out.f0; have f1 := KD.out.f1
      simp only at g0 g1 c0 c1
      go_region_held3 (fun w' => w'.cell? ⟨g, k * 3, none⟩ = some (.string p1) ∧ w'.cell? ⟨g, k * 3 + 1, none⟩ = some (.string p2) ∧ w'.cell? ⟨bx, 0, none⟩ = some (.string p1) ∧ w'.cell? ⟨bx, 1, none⟩ = some (.string p2) ∧ w'.frozen? ⟨g, k * 3, none⟩ = false ∧ w'.frozen? ⟨g, k * 3 + 1, none⟩ = false ∧ Hid (RenK w g (k * 3) bx (p1, p2, p3) w'))
        (first | exact ⟨g0, g1, c0, c1, f0, f1, KD⟩ | exact ⟨HKn.out.a0, HKn.out.a1, HKn.out.b0, HKn.out.b1, HKn.out.f0, HKn.out.f1, HKn⟩ | (rw [set_same HKn.out.a0]; exact ⟨HKn.out.a0, HKn.out.a1, HKn.out.b0, HKn.out.b1, HKn.out.f0, HKn.out.f1, HKn⟩) | (rw [set_same HKn.out.a0, set_same HKn.out.a1]; exact ⟨HKn.out.a0, HKn.out.a1, HKn.out.b0, HKn.out.b1, HKn.out.f0, HKn.out.f1, HKn⟩) | (rw [set_same HKn.out.a1, set_same HKn.out.a0]; exact ⟨HKn.out.a0, HKn.out.a1, HKn.out.b0, HKn.out.b1, HKn.out.f0, HKn.out.f1, HKn⟩) | (rw [set_same HKn.out.a1]; exact ⟨HKn.out.a0, HKn.out.a1, HKn.out.b0, HKn.out.b1, HKn.out.f0, HKn.out.f1, HKn⟩) | (have HQ := (by assumption : Hid (RenK w g (k * 3) bx (p1, p2, p3) _)); rw [set_same HQ.out.a1]; exact ⟨HQ.out.a0, HQ.out.a1, HQ.out.b0, HQ.out.b1, HQ.out.f0, HQ.out.f1, HQ⟩) | (have HQ := (by assumption : Hid (RenK w g (k * 3) bx (p1, p2, p3) _)); rw [set_same HQ.out.a0]; exact ⟨HQ.out.a0, HQ.out.a1, HQ.out.b0, HQ.out.b1, HQ.out.f0, HQ.out.f1, HQ⟩) | go_keep)
        (first
          | (go_at_call 47; refine (C1.out _).mono ?_; rintro e w4 ⟨rfl, hb4⟩; have HKn := Lib.hid ((by assumption : Hid (RenK w g (k * 3) bx (p1, p2, p3) _)).out.step hb4); clear hb4)
          | (go_at_call 47; refine (C2.out _).mono ?_; rintro e w5 ⟨rfl, hb4⟩; have HKn := Lib.hid ((by assumption : Hid (RenK w g (k * 3) bx (p1, p2, p3) _)).out.step hb4); clear hb4))
      rename_i hHeld
      clear hHeld
      rw [set_same HKn.out.a0, set_same HKn.out.a1]
      have B5 : Hid (Below w.heap.size w w5) := Lib.hid HKn.out.bel
      clear g0 g1 c0 c1 f0 f1 KA KD
      go_wp2
      exact ⟨⟨k + 1, by omega, by go_num, B5⟩, by simp [RowKit.intOf]; omega⟩
    · obtain rfl : k = n := by omega
      go_wp2
      go_end0
      exact ⟨rfl, BW.out⟩
end Go.Proofs.YtmfmbmlfdlebfaaDoor

/- count.newTally, add: a tally of blocks in memory, one block more. -/
namespace Go.Proofs.YtmfmbmlfdlebfaaDoor
open Go.RowKit Go.Shelf
open Go.ChangeMaps (setBlock heap_setBlock_same heap_setBlock_other)
set_option linter.unusedSimpArgs false
set_option linter.unusedVariables false

/-- The blocks are too many for a table, or too often there. -/
def manyB (l : List Blk) : Bool := decide (1073741824 < sumN l ∨ 4096 < (gat l).length)
theorem manyB_false {l : List Blk} (h : manyB l = false) : sumN l ≤ 1073741824 ∧ (gat l).length ≤ 4096 := by
  simp [manyB] at h; omega
theorem ins_len_ge {b : Blk} {l : List Blk} : l.length ≤ (insB b l).length := by
  induction l with
  | nil => simp
  | cons x t ih =>
    rw [insB]
    split
    · simp only [List.length_cons]; omega
    · split <;> simp
theorem manyB_more {l : List Blk} (b : Blk) (hN : 1 ≤ b.2.2) (h : manyB l = true) : manyB (l ++ [b]) = true := by
  simp only [manyB, decide_eq_true_eq] at h ⊢
  have h1 := ins_len_ge (b := b) (l := gat l)
  rw [sumN_append, gat_snoc]
  simp only [sumN, List.map_cons, List.map_nil, List.sum_cons, List.sum_nil] at *
  omega
theorem manyB_big {l : List Blk} (b : Blk) (h : 1073741824 - sumN l < b.2.2) : manyB (l ++ [b]) = true := by
  simp only [manyB, decide_eq_true_eq]
  rw [sumN_append]
  simp only [sumN, List.map_cons, List.map_nil, List.sum_cons, List.sum_nil] at *
  omega
theorem manyB_fits {l : List Blk} (b : Blk) (h : ¬ 1073741824 - sumN l < b.2.2) : manyB (l ++ [b]) = decide (4096 < (insB b (gat l)).length) := by
  unfold manyB
  rw [gat_snoc, sumN_append]
  congr 1
  simp only [sumN, List.map_cons, List.map_nil, List.sum_cons, List.sum_nil] at *
  apply propext
  omega

abbrev TalMap (w : World) (m n : Nat) (D : DataW Unit) : Prop := w.ownsMap Tryd.prog 68 (plainElem Tryd.prog 3) m n D
/-- A tally of blocks lies at p, its map at m. -/
structure Tal (w : World) (base p m : Nat) (l : List Blk) : Prop where
  hp : base ≤ p
  hm : base ≤ m
  ne : m ≠ p
  lt : p < w.heap.size
  mb : ∃ es clock, w.heap[m]? = some (.map es clock)
  row : ∃ tot : Int, w.heap[p]? = some (.cells #[.map (some m), .int .i64 tot, .bool (manyB l)] 66 (0, 0)) ∧ (manyB l = false → tot = sumN l ∧ ∃ D, TalMap w m (gat l).length D ∧ View D (gat l))
theorem Tal.kept {w w' : World} {base p m : Nat} {l : List Blk} (h : Tal w base p m l) (hb : Below w.heap.size w w') : Tal w' base p m l := by
  obtain ⟨h1, h2, h3, h4, ⟨es, clock, h7⟩, tot, h5, h6⟩ := h
  refine ⟨h1, h2, h3, Nat.lt_of_lt_of_le h4 hb.size, ⟨es, clock, (hb.block m (Array.getElem?_eq_some_iff.1 h7).1).trans h7⟩, tot, (hb.block p h4).trans h5, fun hmn => ?_⟩
  obtain ⟨e, D, hD, hv⟩ := h6 hmn
  refine ⟨e, D, ?_, hv⟩
  obtain ⟨es, clock, hx, rest⟩ := hD
  exact ⟨es, clock, (hb.block m (Array.getElem?_eq_some_iff.1 hx).1).trans hx, rest⟩

/-- Nothing but two blocks has turned. -/
def Only (p m : Nat) (w w' : World) : Prop := w.heap.size ≤ w'.heap.size ∧ ∀ k, k < w.heap.size → k ≠ p → k ≠ m → w'.heap[k]? = w.heap[k]?
theorem Only.of_below {p m : Nat} {w w' : World} (h : Below w.heap.size w w') : Only p m w w' := ⟨h.size, fun k hk _ _ => h.block k hk⟩
theorem Only.trans {p m : Nat} {a b c : World} (h : Only p m a b) (g : Only p m b c) : Only p m a c := ⟨Nat.le_trans h.1 g.1, fun k hk h1 h2 => (g.2 k (Nat.lt_of_lt_of_le hk h.1) h1 h2).trans (h.2 k hk h1 h2)⟩
theorem Only.setCell {p m j : Nat} {a b : World} (h : Only p m a b) (u : Value) : Only p m a (b.setCell ⟨p, j, none⟩ u) := ⟨by
  show _ ≤ (b.heap.modify _ _).size
  rw [Array.size_modify]; exact h.1, fun k hk h1 h2 => (Below.heap_setCell b ⟨p, j, none⟩ u k h1).trans (h.2 k hk h1 h2)⟩
theorem Only.grown {p m : Nat} {a b c : World} (h : Only p m a b) (g : b.grownBy c (some m)) : Only p m a c := ⟨Nat.le_trans h.1 g.size, fun k hk h1 h2 => (g.block k (Nat.lt_of_lt_of_le hk h.1) (fun e => h2 (Option.some.inj e))).trans (h.2 k hk h1 h2)⟩
/-- A row of blocks is neither of the two. -/
theorem Tal.runs {w w' : World} {base p m : Nat} {l : List Blk} (h : Tal w base p m l) (ho : Only p m w w') {v : Value} {Y : List Blk} (hr : BRuns w v Y) : BRuns w' v Y := by
  obtain ⟨A, c, e, hc, hm, hx⟩ := hr
  refine ⟨A, c, e, hc, hm, fun h0 => ?_⟩
  obtain ⟨b, o, eA, hlt, hcell⟩ := hx h0
  obtain ⟨x, hx0⟩ : ∃ x, Y[0]? = some x := ⟨_, List.getElem?_eq_getElem h0⟩
  have hs := hcell 0 x hx0 0 _ rfl
  obtain ⟨es, clock, hmb⟩ := h.mb
  obtain ⟨tot, hrow, _⟩ := h.row
  have n1 : b ≠ p := fun e => by
    subst e
    rw [cell_of_row _ _ _ _ _ _ hrow] at hs
    have : o + 0 * 3 + 0 < 3 := (Array.getElem?_eq_some_iff.1 hs).1
    rcases (show o = 0 ∨ o = 1 ∨ o = 2 by omega) with h | h | h <;> subst h <;> simp at hs
  have n2 : b ≠ m := fun e => by
    subst e
    simp [World.cell?, hmb] at hs
  exact ⟨b, o, eA, Nat.lt_of_lt_of_le hlt ho.1, fun j x hj i u hu => (World.cell?_of_block (w := w) (ho.2 b hlt n1 n2)).trans (hcell j x hj i u hu)⟩

theorem int_zero (w : World) : (zeroValue 3).run Tryd.prog w = .ok (.int .i64 0) w := by kernel_rfl

set_option maxRecDepth 100000 in
set_option maxHeartbeats 4000000 in
theorem newTally_any (w : World) :
    Calls Tryd.prog 27 #[] w fun e w' => e = .returned (.pointer (some ⟨w.heap.size + 1, 0, none⟩)) ∧ Tal w' w.heap.size (w.heap.size + 1) w.heap.size [] ∧ Below w.heap.size w w' := by
  have hmm := @run_makeMap Tryd.prog
  have hend : Hid (Tal ((w.alloc (.map #[] 0)).alloc (.cells #[.map (some w.heap.size), .int .i64 0, .bool false] 66)) w.heap.size (w.heap.size + 1) w.heap.size [] ∧ Below w.heap.size w ((w.alloc (.map #[] 0)).alloc (.cells #[.map (some w.heap.size), .int .i64 0, .bool false] 66))) := Lib.hid ⟨⟨by omega, Nat.le_refl _, by omega, by simp, ⟨#[], 0, by
      have h1 := heap_alloc_new w (.map #[] 0)
      have h2 := ((Below.refl (w.alloc (.map #[] 0)).heap.size (w.alloc (.map #[] 0))).alloc (Nat.le_refl _) (.cells #[.map (some w.heap.size), .int .i64 0, .bool false] 66)).block w.heap.size (by simp)
      exact h2.trans h1⟩, 0, by
      have := heap_alloc_new (w.alloc (.map #[] 0)) (.cells #[.map (some w.heap.size), .int .i64 0, .bool false] 66)
      rwa [World.size_alloc] at this, fun _ => ⟨by simp [sumN], .map [], (World.ownsMap_made w Tryd.prog 68 (plainElem Tryd.prog 3)).alloc _, View.none_⟩⟩, ((Below.refl _ _).alloc (Nat.le_refl _) _).alloc (by simp) _⟩
  go_enter Tryd.func27, Tryd.ntmps27
  go_wp2
  go_ret
  exact ⟨rfl, hend.out.1, hend.out.2⟩

theorem cells_at {w : World} {p : Nat} {a b c : Value} {t : TypeId} (h : w.heap[p]? = some (.cells #[a, b, c] t (0, 0))) : w.cell? ⟨p, 0, none⟩ = some a ∧ w.cell? ⟨p, 1, none⟩ = some b ∧ w.cell? ⟨p, 2, none⟩ = some c ∧ (∀ j, w.frozen? ⟨p, j, none⟩ = false) := by
  refine ⟨?_, ?_, ?_, ?_⟩
  · rw [cell_of_row _ _ _ _ _ _ h]; rfl
  · rw [cell_of_row _ _ _ _ _ _ h]; rfl
  · rw [cell_of_row _ _ _ _ _ _ h]; rfl
  · intro j; simp [World.frozen?, h]
theorem set_row {w : World} {p : Nat} {cs : Array Value} {t : TypeId} (h : w.heap[p]? = some (.cells cs t (0, 0))) (j : Nat) (u : Value) : (w.setCell ⟨p, j, none⟩ u).heap[p]? = some (.cells (cs.setIfInBounds j u) t (0, 0)) := by
  obtain ⟨hlt, hk⟩ := Array.getElem?_eq_some_iff.1 h
  show (w.heap.modify p _)[p]? = _
  rw [Array.getElem?_eq_getElem (by rw [Array.size_modify]; exact hlt), Array.getElem_modify_self, hk]
  rfl
theorem size_set (w : World) (a : Addr) (u : Value) : (w.setCell a u).heap.size = w.heap.size := by
  show (w.heap.modify _ _).size = _
  rw [Array.size_modify]

/-- m[k] += v as it is run: the entry, then the store. -/
theorem entry_put {W : World} {m n : Nat} {D : DataW Unit} (h : TalMap W m n D) (hn : n < maxLen) (a b : ByteArray) (ha : a.size ≤ maxLen) (hb : b.size ≤ maxLen) (v : Int) (hv : (Lit.int .i64 v).wf = true) :
    ∃ v0 st W1 W2, (Instr.mapEntry 64 (.map (some m)) (.agg #[.string a, .string b])).run Tryd.prog W = .ok (.tuple #[v0, .int .i64 st]) W1 ∧
      (Instr.entryStore 64 (.map (some m)) (.int .i64 st) (.int .i64 v)).run Tryd.prog W1 = .ok () W2 ∧ TalMap W2 m (n + 1) (D.put (keyL a b) (.lit (.int .i64 v))) ∧ W.grownBy W2 (some m) := by
  have hkey := keyOf_sides a b ha hb
  obtain ⟨w', hrun, h1, h2⟩ := h.update (t := 64) (e := 3) sides_keyed Tryd.underlying64 hn hkey (plainElem_int Tryd.underlying3 hv)
  obtain ⟨es, clock, hb', F, hs, hD⟩ := h
  obtain ⟨v0, st, es1, clock1, hE, _, hS⟩ := WideElems.entry_then_store sides_law Tryd.underlying64 (z := .int .i64 0) (fun u => int_zero u) hb' F hkey
  obtain ⟨es', clock', hS1, hU⟩ := hS (setBlock W m (.map es1 clock1)) (.int .i64 v) (heap_setBlock_same hb' _)
  rw [hrun] at hU
  obtain rfl : w' = setBlock W m (.map es' clock') := by injection hU
  have e : setBlock (setBlock W m (.map es1 clock1)) m (.map es' clock') = setBlock W m (.map es' clock') := by
    simp [setBlock]
  rw [e] at hS1
  exact ⟨v0, st, _, _, hE, hS1, h1, h2⟩
end Go.Proofs.YtmfmbmlfdlebfaaDoor

/- count's tally.add: one block more. -/
namespace Go.Proofs.YtmfmbmlfdlebfaaDoor
open Go.RowKit Go.Shelf
open Go.ChangeMaps (setBlock heap_setBlock_same heap_setBlock_other)
set_option linter.unusedSimpArgs false
set_option linter.unusedVariables false

/-- The entry of a key: what is there, as if it were stored once more. -/
theorem entry_same {P : Program} {w : World} {t k e : TypeId} {H : Type} {R : Value → Option (DataW H × List MemPlace)} {b : Nat} {es : Array MapEntry} {clock : Nat} (K : WideMaps.KeyLaw P k) (ht : P.underlying t = some (.map k e)) {z : Value} (hz : ∀ u : World, (zeroValue e).run P u = .ok z u) (hb : w.heap[b]? = some (.map es clock)) (F : WideElems.Fit P k R es clock)
    {key : Value} {kl : Lit} (hkey : keyOf P k key = some kl) :
    ∃ (v0 : Value) (r : Value) (W1 : World), (Instr.mapEntry t (.map (some b)) key).run P w = .ok (.tuple #[v0, r]) W1 ∧ (Instr.lookup t (.map (some b)) key false).run P w = .ok v0 w ∧ (Instr.mapUpdate t (.map (some b)) key v0).run P w = .ok () W1 := by
  rcases K.find w hkey es.toList F.keys with ⟨h1, h2⟩ | ⟨j, e0, h1, h2, h3⟩
  · refine ⟨z, goInt clock, setBlock w b (.map (es.push ⟨key, z, clock⟩) (clock + 1)), ?_, ?_, ?_⟩
    · simp [Instr.mapEntry, run_underlying ht, MapKept.run_getObj_map hb, K.check w false hkey, h1, hz, MapKept.run_setObj_map _ hb, Result.andThen, setBlock]
    · simp [Instr.lookup, run_underlying ht, MapKept.run_getObj_map hb, K.check w _ hkey, h1, hz, Result.andThen]
    · simp [Instr.mapUpdate, run_underlying ht, MapKept.run_getObj_map hb, K.check w false hkey, h1, MapKept.run_setObj_map _ hb, Result.andThen, setBlock]
  · have hj : es[j]? = some e0 := by simpa using h2
    refine ⟨e0.val, goInt e0.born, setBlock w b (.map (es.modify j fun e => { e with key := key }) clock), ?_, ?_, ?_⟩
    · simp [Instr.mapEntry, run_underlying ht, MapKept.run_getObj_map hb, K.check w false hkey, h1, hj, h3, K.stays w hkey, MapKept.run_setObj_map _ hb, Result.andThen, setBlock]
    · simp [Instr.lookup, run_underlying ht, MapKept.run_getObj_map hb, K.check w _ hkey, h1, Result.andThen]
    · have hsame : (es.modify j fun e' => { e' with key := key, val := e0.val }) = es.modify j fun e => { e with key := key } := by
        apply Array.ext'
        rw [Array.toList_modify, Array.toList_modify, ChangeMaps.modify_eq_set _ _ _ _ h2, ChangeMaps.modify_eq_set _ _ _ _ h2]
      simp [Instr.mapUpdate, run_underlying ht, MapKept.run_getObj_map hb, K.check w false hkey, h1, hj, h3, K.stays w hkey, MapKept.run_setObj_map _ hb, Result.andThen, setBlock, hsame]
set_option maxRecDepth 100000 in
/-- m[k] += v, whichever comes first, the look or the entry. -/
theorem entry_all {W : World} {m n : Nat} {D : DataW Unit} (h : TalMap W m n D) (hn : n < 1000000) (a b : ByteArray) (ha : a.size ≤ maxLen) (hb : b.size ≤ maxLen) (v c : Int) (hv : (Lit.int .i64 v).wf = true) (hc : (Lit.int .i64 c).wf = true)
    (hlk : (Instr.lookup 64 (.map (some m)) (.agg #[.string a, .string b]) false).run Tryd.prog W = .ok (.int .i64 c) W) :
    ∃ st W1 W2, (Instr.mapEntry 64 (.map (some m)) (.agg #[.string a, .string b])).run Tryd.prog W = .ok (.tuple #[.int .i64 c, .int .i64 st]) W1 ∧
      (Instr.lookup 64 (.map (some m)) (.agg #[.string a, .string b]) false).run Tryd.prog W1 = .ok (.int .i64 c) W1 ∧
      (Instr.entryStore 64 (.map (some m)) (.int .i64 st) (.int .i64 v)).run Tryd.prog W1 = .ok () W2 ∧ TalMap W2 m (n + 1) (D.put (keyL a b) (.lit (.int .i64 v))) ∧ W.grownBy W2 (some m) := by
  have hkey := keyOf_sides a b ha hb
  obtain ⟨v0, st, W1, W2, hE, hS, hM, hG⟩ := entry_put h (by unfold maxLen; omega) a b ha hb v hv
  have h' := h
  obtain ⟨es, clock, hb', F, hs, hD⟩ := h'
  obtain ⟨v0', r, W1', hE', hL', hU'⟩ := entry_same sides_law Tryd.underlying64 (z := .int .i64 0) (fun u => int_zero u) hb' F hkey
  rw [hlk] at hL'
  obtain rfl : Value.int .i64 c = v0' := by injection hL'
  rw [hE] at hE'
  have e1 : W1 = W1' := by injection hE'
  have e2 : v0 = .int .i64 c := by
    injection hE' with q
    injection q with q
    have q1 := congrArg Array.toList q
    simp only [List.cons.injEq] at q1
    exact q1.1
  subst e1 e2
  obtain ⟨w', hrun, g1, g2⟩ := h.update (t := 64) (e := 3) sides_keyed Tryd.underlying64 (by unfold maxLen; omega) hkey (plainElem_int Tryd.underlying3 hc)
  rw [hU'] at hrun
  obtain rfl : W1 = w' := by injection hrun
  obtain ⟨c', hl1, hat, _⟩ := g1.lookup_int (t := 64) sides_keyed Tryd.underlying64 Tryd.underlying3 (int_zero _) hkey
  rw [Maps.atKey_put_same h.isMap (keyL_isKey _ _)] at hat
  obtain rfl : c = c' := by simpa using hat
  exact ⟨st, W1, W2, hE, hl1, hS, hM, hG⟩

theorem cnt_le {l : List Blk} (h : posN l) (k : Blk) : cnt l k ≤ sumN l := by
  induction l with
  | nil => simp [cnt_nil, sumN]
  | cons a l ih =>
    have h1 := ih (fun z hz => h z (by simp [hz]))
    have h2 := h a (by simp)
    rw [cnt_cons, sumN_cons]
    split <;> omega

set_option maxRecDepth 100000 in
set_option maxHeartbeats 8000000 in
theorem add_any (p m base : Nat) (l : List Blk) (b : Blk) (w : World) (hT : Tal w base p m l) (hbase : base ≤ w.heap.size) (hpos : posN l) (h1 : 1 ≤ b.2.2) (h2 : b.2.2 ≤ 1073741824) (hz1 : b.1.size ≤ 2000000) (hz2 : b.2.1.size ≤ 2000000) :
    Calls Tryd.prog 28 #[.pointer (some ⟨p, 0, none⟩), .agg #[.string b.1, .string b.2.1, .int .i64 b.2.2]] w fun e w' => e = .returned (.tuple #[]) ∧ Tal w' base p m (l ++ [b]) ∧ Below base w w' ∧ Only p m w w' := by
  obtain ⟨b1, b2, N⟩ := b
  simp only at h1 h2 hz1 hz2 ⊢
  obtain ⟨k1, k2, k3, k4, ⟨es0, clock0, hmb⟩, tot, hrow, hrest⟩ := hT
  have hal : Below w.heap.size w (w.alloc (.cells #[.string b1, .string b2, .int .i64 N] 43)) := (Below.refl _ _).alloc (Nat.le_refl _) _
  have hxr := heap_alloc_new w (.cells #[.string b1, .string b2, .int .i64 N] 43)
  obtain ⟨x0, x1, x2, x3⟩ := cells_at (heap_alloc_new w (.cells #[.string b1, .string b2, .int .i64 N] 43))
  have hrow1 := (hal.block p k4).trans hrow
  have hmb1 := (hal.block m (Array.getElem?_eq_some_iff.1 hmb).1).trans hmb
  have honly := Only.of_below (p := p) (m := m) hal
  have hsz : (w.alloc (.cells #[.string b1, .string b2, .int .i64 N] 43)).heap.size = w.heap.size + 1 := by simp
  have hmap1 : manyB l = false → tot = sumN l ∧ ∃ D, TalMap (w.alloc (.cells #[.string b1, .string b2, .int .i64 N] 43)) m (gat l).length D ∧ View D (gat l) := fun h => by
    obtain ⟨e, D, hD, hv⟩ := hrest h
    exact ⟨e, D, hD.alloc _, hv⟩
  obtain ⟨wa, hwa⟩ : ∃ z, w.alloc (.cells #[.string b1, .string b2, .int .i64 N] 43) = z := ⟨_, rfl⟩
  rw [hwa] at hmb1 honly hxr x0 x1 x2 x3 hrow1 hmap1 hal hsz
  have HWA := Lib.hid hwa
  have BA : Hid (Below base w wa) := Lib.hid (hal.mono hbase)
  obtain ⟨bx, hbx⟩ : ∃ z, w.heap.size = z := ⟨_, rfl⟩
  rw [hbx] at hxr x0 x1 x2 x3 hbase k4 hsz
  have HBX := Lib.hid hbx
  have hpa : p < wa.heap.size := by omega
  have HMB := Lib.hid hmb1; have HON := Lib.hid honly
  clear hwa hrow hrest hal hbx hmb hmb1 honly
  obtain ⟨y0, y1, y2, y3⟩ := cells_at hrow1
  have y3' := y3 2
  have y3t := y3 1
  have Y3 := Lib.hid y3; have X3 := Lib.hid x3
  clear y3 x3
  have HR := Lib.hid hrow1; have HXR := Lib.hid hxr; clear hrow1 hxr
  have hend : Hid (manyB (l ++ [(b1, b2, N)]) = true → ∀ k : Nat, Tal ((wa.drewN k).setCell ⟨p, 2, none⟩ (.bool true)) base p m (l ++ [(b1, b2, N)]) ∧ Below base w ((wa.drewN k).setCell ⟨p, 2, none⟩ (.bool true)) ∧ Only p m w ((wa.drewN k).setCell ⟨p, 2, none⟩ (.bool true))) := Lib.hid (fun hm k => by
    have hr : (wa.drewN k).heap[p]? = _ := HR.out
    refine ⟨⟨k1, k2, k3, by rw [size_set]; exact hpa, ⟨es0, clock0, (Below.heap_setCell (wa.drewN k) ⟨p, 2, none⟩ _ m k3).trans HMB.out⟩, tot, ?_, fun h => by rw [hm] at h; cases h⟩, (below_draws BA.out k).setCell k1 _, Only.setCell (b := wa.drewN k) HON.out _⟩
    rw [hm]
    exact set_row hr 2 (.bool true))
  cases hmn : manyB l with
  | true =>
    rw [hmn] at y2
    have hm' := Lib.hid (hend.out (manyB_more _ h1 hmn))
    clear hend hmn hmap1
    go_enter Tryd.func28, Tryd.ntmps28
    go_wp2_with fail
    rw [HWA.out, HBX.out]
    go_quiet (fail)
    go_wp2
    (try simp only [Exit.inBlock, Exit.then])
    refine bodyPost_ret (results_none rfl _ _ _) rfl ?_
    exact ⟨rfl, hm'.out _⟩
  | false =>
    rw [hmn] at y2
    obtain ⟨etot, D, hD, hV⟩ := hmap1 hmn
    clear hmap1
    obtain ⟨hs1, hs2⟩ := manyB_false hmn
    have hs0 := sumN_nonneg hpos
    rw [← etot] at hs1 hs0
    have hwr : IntKind.i64.wrap (1073741824 - tot) = 1073741824 - tot := by rw [IntKind.wrap_i64]; omega
    by_cases hbig : 1073741824 - tot < N
    · have hm' := Lib.hid (hend.out (manyB_big _ (by rw [← etot]; exact hbig)))
      have hd : decide (1073741824 - tot < N) = true := decide_eq_true hbig
      clear hend hmn hD hV etot
      go_enter Tryd.func28, Tryd.ntmps28
      go_wp2_with fail
      rw [HWA.out, HBX.out]
      go_quiet (fail)
      go_wp2
      (try simp only [Exit.inBlock, Exit.then])
      refine bodyPost_ret (results_none rfl _ _ _) rfl ?_
      exact ⟨rfl, hm'.out _⟩
    · have hd : decide (1073741824 - tot < N) = false := decide_eq_false hbig
      have hmf := manyB_fits (l := l) (b1, b2, N) (by rw [← etot]; exact hbig)
      have HMF := Lib.hid hmf
      have hmf2 : manyB l = false := by simp only [manyB, decide_eq_false_iff_not]; rw [← etot]; omega
      have HF2 := Lib.hid hmf2
      have ET := Lib.hid etot
      clear hend hmn hmf hmf2 etot
      have hwr2 : IntKind.i64.wrap (tot + N) = tot + N := by rw [IntKind.wrap_i64]; omega
      go_enter Tryd.func28, Tryd.ntmps28
      go_wp2_with fail
      rw [HWA.out, HBX.out]
      go_quiet (fail)
      go_wp2
      obtain ⟨w5, hw5⟩ : ∃ w5, w5 = wa.drewN nq := ⟨_, rfl⟩
      rw [← hw5]
      have hr5 : w5.heap[p]? = some (.cells #[.map (some m), .int .i64 tot, .bool false] 66 (0, 0)) := by rw [hw5, ← HF2.out]; exact HR.out
      have hx5 : w5.heap[bx]? = some (.cells #[.string b1, .string b2, .int .i64 N] 43 (0, 0)) := by rw [hw5]; exact HXR.out
      have hD5 : TalMap w5 m (gat l).length D := by rw [hw5]; exact hD
      have B5 : Hid (Below base w w5) := Lib.hid (by rw [hw5]; exact below_draws BA.out _)
      have N5 : Hid (Only p m w w5) := Lib.hid (by rw [hw5]; exact HON.out)
      have hp5 : p < w5.heap.size := by rw [hw5]; exact hpa
      clear hw5 hD x0 x1 x2 y0 y1 y2 HR HXR BA Y3 X3 y3' y3t hwr HWA HBX HF2
      have HR5 := Lib.hid hr5; have HX5 := Lib.hid hx5; have HD5 := Lib.hid hD5; clear hr5 hx5 hD5
      obtain ⟨y0, y1, y2, y3⟩ := cells_at HR5.out
      obtain ⟨x0, x1, x2, x3⟩ := cells_at HX5.out
      go_still_tail 9, (by kernel_rfl)
      change wpList _ _ _ _ _ w5.drew
      clear y0 y1 y2 y3 x0 x1 x2 x3
      obtain ⟨w6, hw6⟩ : ∃ w6, w6 = w5.drew := ⟨_, rfl⟩
      rw [← hw6]
      have HR6 : Hid (w6.heap[p]? = some (.cells #[.map (some m), .int .i64 tot, .bool false] 66 (0, 0))) := Lib.hid (by rw [hw6]; exact HR5.out)
      have HX6 : Hid (w6.heap[bx]? = some (.cells #[.string b1, .string b2, .int .i64 N] 43 (0, 0))) := Lib.hid (by rw [hw6]; exact HX5.out)
      have HD6 : Hid (TalMap w6 m (gat l).length D) := Lib.hid (by rw [hw6]; exact HD5.out)
      have B6 : Hid (Below base w w6) := Lib.hid (by rw [hw6]; exact B5.out.drew)
      have N6 : Hid (Only p m w w6) := Lib.hid (by rw [hw6]; exact N5.out)
      have hp6 : p < w6.heap.size := by rw [hw6]; exact hp5
      clear hw6 HR5 HX5 HD5 B5 hp5
      obtain ⟨y0, y1, y2, y3⟩ := cells_at HR6.out
      have y31 := y3 1
      clear y3
      go_wp2
      obtain ⟨w7, hw7⟩ : ∃ w7, w7 = w6.setCell ⟨p, 1, none⟩ (.int .i64 (tot + N)) := ⟨_, rfl⟩
      rw [← hw7]
      have hbp : bx ≠ p := by omega
      have HR7 : Hid (w7.heap[p]? = some (.cells #[.map (some m), .int .i64 (tot + N), .bool false] 66 (0, 0))) := Lib.hid (by rw [hw7]; exact set_row HR6.out 1 _)
      have HX7 : Hid (w7.heap[bx]? = some (.cells #[.string b1, .string b2, .int .i64 N] 43 (0, 0))) := Lib.hid (by rw [hw7]; exact (Below.heap_setCell w6 ⟨p, 1, none⟩ _ bx hbp).trans HX6.out)
      have HD7 : Hid (TalMap w7 m (gat l).length D) := Lib.hid (by rw [hw7]; exact HD6.out.setCell (a := ⟨p, 1, none⟩) k3 _)
      have B7 : Hid (Below base w w7) := Lib.hid (by rw [hw7]; exact B6.out.setCell (p := ⟨p, 1, none⟩) k1 _)
      have N7 : Hid (Only p m w w7) := Lib.hid (by rw [hw7]; exact N6.out.setCell _)
      have hp7 : p < w7.heap.size := by rw [hw7, size_set]; exact hp6
      clear hw7 HR6 HX6 HD6 B6 hp6 y0 y1 y2 y31
      obtain ⟨y0, y1, y2, y3⟩ := cells_at HR7.out
      obtain ⟨x0, x1, x2, x3⟩ := cells_at HX7.out
      clear y3 x3
      have hml1 : b1.size ≤ maxLen := by unfold maxLen; omega
      have hml2 : b2.size ≤ maxLen := by unfold maxLen; omega
      have HD7' : TalMap w7.drew m (gat l).length D := HD7.out
      obtain ⟨c, hlk, hat, _⟩ := HD7'.lookup_int sides_keyed Tryd.underlying64 Tryd.underlying3 (int_zero _) (keyOf_sides b1 b2 hml1 hml2)
      have hcc : c = cnt (gat l) (b1, b2, 0) := by
        rw [hV.at_ b1 b2 hml1 hml2] at hat
        simpa using hat.symm
      clear hat
      have hc0 : 0 ≤ c := by rw [hcc]; exact cnt_nonneg (gat_pos hpos) _
      have hc1 : c ≤ 1073741824 := by
        rw [hcc, gat_cnt]
        have h3 := cnt_le hpos (b1, b2, 0)
        rw [← ET.out] at h3
        omega
      have hwr3 : IntKind.i64.wrap (c + N) = c + N := by rw [IntKind.wrap_i64]; omega
      have HCC := Lib.hid hcc; clear hcc
      obtain ⟨st, W1, W2, hE, hlk1, hS, hM, hG⟩ := entry_all HD7' (by omega) b1 b2 hml1 hml2 (c + N) c (WalkArith.wf_i64 (by omega)) (WalkArith.wf_i64 (by omega)) hlk
      have HM := Lib.hid hM; have HG := Lib.hid hG; have HV := Lib.hid hV
      clear hM hG hV HD7'
      go_region
      have HR8 : Hid (W2.heap[p]? = some (.cells #[.map (some m), .int .i64 (tot + N), .bool false] 66 (0, 0))) := Lib.hid ((HG.out.block p hp7 (fun e => k3 (Option.some.inj e).symm)).trans HR7.out)
      have B8 : Hid (Below base w W2) := Lib.hid ((B7.out.drew).grown HG.out (Nat.le_of_lt (Nat.lt_of_le_of_lt k1 hp7)) (fun k hk => by cases hk; exact k2))
      have hp8 : p < W2.heap.size := Nat.lt_of_lt_of_le hp7 HG.out.size
      have N8 : Hid (Only p m w W2) := Lib.hid (Only.grown (b := w7.drew) N7.out HG.out)
      have hV2 := HV.out.put (HD7.out.tidy sides_keyed) (gat_srt l) (gat_pos hpos) (b1, b2, N) hml1 hml2 h1
      simp only at hV2
      rw [← HCC.out] at hV2
      obtain ⟨sz, hsz⟩ : ∃ z, Maps.size (D.put (keyL b1 b2) (.lit (.int .i64 (c + N)))) = z := ⟨_, rfl⟩
      have hsz2 : (insB (b1, b2, N) (gat l)).length = sz := by rw [← hsz]; exact hV2.size.symm
      have hszl : sz ≤ 4097 := by
        have := ins_len (b1, b2, N) (gat l)
        omega
      have HSZ := Lib.hid hsz; have HV2 := Lib.hid hV2
      have hmf := HMF.out
      rw [hsz2] at hmf
      have HMF2 := Lib.hid hmf
      have HSZ2 := Lib.hid hsz2
      clear hsz hV2 hsz2 hmf HMF hE hlk1 hS hlk y0 y1 y2 x0 x1 x2
      have hend2 : Hid (Tal (W2.setCell ⟨p, 2, none⟩ (.bool (decide (4096 < sz)))) base p m (l ++ [(b1, b2, N)]) ∧ Below base w (W2.setCell ⟨p, 2, none⟩ (.bool (decide (4096 < sz)))) ∧ Only p m w (W2.setCell ⟨p, 2, none⟩ (.bool (decide (4096 < sz))))) := Lib.hid ⟨⟨k1, k2, k3, by rw [size_set]; exact hp8, by
        obtain ⟨es, clock, q1, _⟩ := HM.out
        exact ⟨es, clock, (Below.heap_setCell W2 ⟨p, 2, none⟩ _ m k3).trans q1⟩, tot + N, by
        rw [HMF2.out]; exact set_row HR8.out 2 _, fun hm => ⟨by rw [sumN_append, ET.out]; simp [sumN], _, by
          rw [gat_snoc, HSZ2.out]
          have h0 : TalMap W2 m sz (D.put (keyL b1 b2) (.lit (.int .i64 (c + N)))) := by
            obtain ⟨es, clock, q1, q2, q3, q4⟩ := HM.out
            refine ⟨es, clock, q1, q2, ?_, q4⟩
            rw [← HSZ.out, q4]
            show es.size ≤ List.length _
            rw [length_read]
            exact Nat.le_refl _
          exact h0.setCell (a := ⟨p, 2, none⟩) k3 _, by rw [gat_snoc]; exact HV2.out⟩⟩, B8.out.setCell (p := ⟨p, 2, none⟩) k1 _, N8.out.setCell _⟩
      obtain ⟨y0, y1, y2, y3⟩ := cells_at HR8.out
      have y32 := y3 2
      clear y3
      have hcs : (∃ _ : (4096 : Int) < (sz : Int), decide (4096 < sz) = true) ∨ (∃ _ : ¬ (4096 : Int) < (sz : Int), decide (4096 < sz) = false) := by
        by_cases h : 4096 < sz
        · exact .inl ⟨by omega, decide_eq_true h⟩
        · exact .inr ⟨by omega, decide_eq_false h⟩
      rcases hcs with ⟨hc4, hd4⟩ | ⟨hc4, hd4⟩
      all_goals
        rw [hd4] at hend2
        clear hd4
        go_wp2_with (first
          | (at_len; refine wpList_len_own _ rfl _ 64 rfl 68 3 Tryd.underlying64 _ m _ _ rfl HM.out ?_; rw [HSZ.out])
          | go_in)
        go_end0
        exact ⟨rfl, hend2.out⟩
end Go.Proofs.YtmfmbmlfdlebfaaDoor

/- A row of blocks that is made. -/
namespace Go.Proofs.YtmfmbmlfdlebfaaDoor
open Go.RowKit Go.Shelf
set_option linter.unusedSimpArgs false
set_option linter.unusedVariables false

theorem make_blks (w : World) (c : Nat) (hc : c ≤ 2000000) : ∃ w', (Instr.makeSlice 22 (.int .i64 0) (.int .i64 (c : Int))).run Tryd.prog w = .ok (.slice (some ⟨w.heap.size, 0, none⟩) 0 c) w' ∧
    w'.ownsRow w.heap.size 43 3 (.slice (some ⟨w.heap.size, 0, none⟩) 0 c) 0 [] ∧ w.grownBy w' none := by
  obtain ⟨i0, hi, hz0, hz1, hz2⟩ := info_parts info_blk
  exact run_make_own w w.heap.size 22 43 i0 _ 3 Tryd.underlying22 hi hz0 hz1 .i64 .i64 c (by rw [hz2]; omega) (by unfold maxLen; omega) (Nat.le_refl _)
end Go.Proofs.YtmfmbmlfdlebfaaDoor

