/- Texts that several proofs of this seat share, one behind the other: XRen XChk XNor YLaw Frame YArg. -/
import Derived.Test.YtnjhbblhlgpgdaaDoorPk4
import Derived.BigRegion
import Derived.Test.YtnjhbblhlgpgdaaDoorPk5
import Derived.Test.YtnjhbblhlgpgdaaDoorPk2
import Derived.Test.YtnjhbblhlgpgdaaDoorCards
import Derived.Test.YtnjhbblhlgpgdaaDoorTie
import Derived.OpenShut
import Derived.Deep.DeepHandedRow
import Derived.Lib.LaidTab
import Derived.Lib.LaidU8T
import Derived.Carry
import Derived.Test.YtnjhbblhlgpgdaaDoorRows
import Derived.Lib.SmallJoins
import Derived.SliceStrings
import Derived.Deep.Slices
import Derived.ChangeArms
/- lexicon.renewed: the same words, in memory of the call's own. -/
namespace Go.Proofs.YtnjhbblhlgpgdaaDoor
open Go.RowKit Go.Shelf
set_option linter.unusedSimpArgs false
set_option linter.unusedVariables false

set_option maxRecDepth 100000 in
theorem xstr_clone (s : ByteArray) (w : World) (h : s.size ≤ 2000000) : Calls Tryd.prog 72 #[.string s] w fun e w' => e = .returned (.string s) ∧ Below w.heap.size w w' := by
  have c := Tryd.stringslite_Clone s w (by omega)
  have C := Lib.hid c; clear c
  go_enter Tryd.func72, Tryd.ntmps72
  go_wp2_with fail
  refine C.out.mono ?_
  rintro e w1 ⟨rfl, b1⟩
  have B1 := Lib.hid b1; clear b1
  go_wp2
  go_ret
  exact ⟨rfl, B1.out⟩
/-- A word in its box, and all that is old. -/
structure XBox (D : World) (c : Nat) (x : Wrd) (W : World) : Prop where
  b0 : W.cell? ⟨c, 0, none⟩ = some (.string x.1)
  b1 : W.cell? ⟨c, 1, none⟩ = some (.int .i64 x.2)
  lt : c < W.heap.size
  bel : Below D.heap.size D W
theorem XBox.step {D : World} {c : Nat} {x : Wrd} {W W' : World} (h : XBox D c x W) (hb : Below W.heap.size W W') : XBox D c x W' :=
  ⟨(hb.cell (p := ⟨c, _, none⟩) h.lt).trans h.b0, (hb.cell (p := ⟨c, _, none⟩) h.lt).trans h.b1, Nat.lt_of_lt_of_le h.lt hb.size, h.bel.trans (hb.mono h.bel.size)⟩

set_option maxRecDepth 100000 in
set_option maxHeartbeats 8000000 in
theorem xrenewed_any (u : Value) (l : List Wrd) (w : World) (hu : WRuns w u l) (hl : l.length ≤ 2000000) (hz : szW l) :
    Calls Tryd.prog 46 #[u] w fun e w' => ∃ v, e = .returned v ∧ w'.ownsRow w.heap.size 55 2 v l.length (gCells wrdCell l) ∧ Below w.heap.size w w' := by
  obtain ⟨A, c, e⟩ := hu.slice
  subst e
  obtain ⟨n, hn⟩ : ∃ n, l.length = n := ⟨_, rfl⟩
  have hfin : gCells wrdCell l = gCells wrdCell (l.take l.length) := by rw [List.take_length]
  rw [hfin, hn]
  rw [hn] at hu hl
  obtain ⟨w1, hr1, ho1, hg1⟩ := make_words w n hl
  have hb1 : Below w.heap.size w w1 := (Below.refl w.heap.size w).grown hg1 (Nat.le_refl _) (fun k hk => by cases hk)
  have HU := Lib.hid hu; have HN := Lib.hid hn; have HZ := Lib.hid hz; have HO1 := Lib.hid ho1; have HB1 := Lib.hid hb1
  have CL := Lib.hid xstr_clone
  clear hu hn hz ho1 hb1 hg1 hfin
  go_enter Tryd.func46, Tryd.ntmps46
  have eg : ∀ args w, (callFunc 72 args).run Tryd.prog w = .ok (.enter 72 args) w := enters_of Tryd.func72 (by kernel_rfl) rfl
  have hmix : Tryd.prog.follows .mixedOrders = true := by kernel_rfl
  have HEG := Lib.hid eg; clear eg
  go_wp2
  go_loopw [3, 11] (fun s3 s11 wr => ∃ k : Nat, k ≤ n ∧ s11 = .int .i64 k ∧ Hid (wr.ownsRow w.heap.size 55 2 s3 k (gCells wrdCell (l.take k))) ∧ Hid (Below w.heap.size w wr)) (fun _ s11 _ => n - (RowKit.intOf s11).toNat)
  case atStart => exact ⟨0, Nat.zero_le _, rfl, HO1, HB1⟩
  case round =>
    obtain ⟨k, hkn, rfl, HO, BW⟩ := hrel
    by_cases hk : k < n
    · have k1 : (k : Int) < (n : Int) := by omega
      obtain ⟨⟨p1, p2⟩, hp⟩ : ∃ p, l[k]? = some p := ⟨_, List.getElem?_eq_getElem (by rw [HN.out]; exact hk)⟩
      obtain ⟨b, o, rfl, _, hc⟩ := (HU.out.below BW.out).cells HN.out (by omega)
      obtain ⟨g0, g1⟩ := wrd_cells hc hp
      simp only at g0 g1
      have hz1 := HZ.out _ (List.mem_of_getElem? hp)
      simp only at hz1
      have HNEXT : Hid (l.take (k + 1) = l.take k ++ [(p1, p2)]) := Lib.hid (by rw [List.take_add_one, hp]; rfl)
      obtain ⟨t, ht⟩ : ∃ t, l.take k = t := ⟨_, rfl⟩
      rw [ht] at HO HNEXT
      have hte : t.length = k := by rw [← ht, List.length_take, HN.out]; omega
      have GR := GRuns.of_own wrd_ln hte HO.out
      obtain ⟨A3, c3, e3⟩ := GR.slice
      rw [hte] at e3
      subst e3
      clear GR
      have hal := bel_one wr (.cells #[.string p1, .int .i64 p2] 55)
      obtain ⟨e0, e1⟩ := cells2_new wr (.string p1) (.int .i64 p2) 55
      have hltb : wr.heap.size < (wr.alloc (.cells #[.string p1, .int .i64 p2] 55)).heap.size := by simp
      obtain ⟨wa, hwa⟩ : ∃ z, wr.alloc (.cells #[.string p1, .int .i64 p2] 55) = z := ⟨_, rfl⟩
      rw [hwa] at hal e0 e1 hltb
      obtain ⟨bx, hbx⟩ : ∃ z, wr.heap.size = z := ⟨_, rfl⟩
      rw [hbx] at e0 e1 hltb
      have BA : Hid (Below w.heap.size w wa.drew) := Lib.hid (BW.out.trans (hal.mono BW.out.size)).drew
      have OA : Hid (wa.drew.ownsRow w.heap.size 55 2 (.slice A3 k c3) k (gCells wrdCell t)) := Lib.hid (own_below HO.out hal.drew)
      have KA : Hid (XBox wa.drew bx (p1, p2) wa.drew) := Lib.hid ⟨e0, e1, hltb, Below.refl _ _⟩
      have C1 := Lib.hid (fun w => CL.out p1 w hz1)
      have HWA := Lib.hid hwa; have HBX := Lib.hid hbx
      have SD : w.heap.size ≤ wa.drew.heap.size := BA.out.size
      clear hc hp hal hwa hbx ht hz1 HO hte
      have eg := HEG.out
      go_wp2
      rw [HWA.out, HBX.out]
      clear g0 g1
      have d0 : wa.drew.cell? ⟨bx, 0, none⟩ = some (.string p1) := e0
      have d1 : wa.drew.cell? ⟨bx, 1, none⟩ = some (.int .i64 p2) := e1
      go_region_law (first
        | (refine xstep_call rfl 72 (.tmp 17) 9 rfl eg (by go_simp) (C1.out _) ?_; rintro e w18 ⟨rfl, hb18⟩; refine ⟨_, rfl, ?_⟩; have K18 : Hid (XBox wa.drew bx (p1, p2) w18) := Lib.hid (KA.out.step hb18); have x0 := K18.out.b0; have x1 := K18.out.b1; simp only at x0 x1; clear hb18)
        | (refine xstep_words rfl (.tmp 15) (.tmp 22) w.heap.size k (gCells wrdCell t) [(p1, p2)] (by exact own_below OA.out (K18.out.bel.trans ((bel_one _ _).mono K18.out.bel.size))) (by exact wrd_litR _ (p1, p2)) rfl rfl (by go_simp) (by go_simp) (by exact Nat.le_trans SD (K18.out.bel.trans ((bel_one _ _).mono K18.out.bel.size)).size) (by simp only [List.length_cons, List.length_nil]; omega) ?_; intro v26 w26 h26 k26 j26; have O26 : Hid (w26.ownsRow w.heap.size 55 2 v26 (k + 1) (gCells wrdCell (t ++ [(p1, p2)]))) := Lib.hid (by rw [gCells_append]; exact h26); have B26 : Hid (Below w.heap.size w w26) := Lib.hid ((BA.out.trans ((K18.out.bel.trans ((bel_one _ _).mono K18.out.bel.size)).mono SD)).grown k26 (by exact Nat.le_trans SD (K18.out.bel.trans ((bel_one _ _).mono K18.out.bel.size)).size) (fun q hq => (OA.out.lt q hq).1)); clear h26 k26 j26))
      all_goals
        go_wp2
        exact ⟨⟨k + 1, by omega, by go_num, Lib.hid (by rw [HNEXT.out]; exact O26.out), B26⟩, by simp [RowKit.intOf]; omega⟩
    · obtain rfl : k = n := by omega
      go_wp2
      go_ret
      exact ⟨_, rfl, HO.out, BW.out⟩
end Go.Proofs.YtnjhbblhlgpgdaaDoor

/- lexicon.Check, each, Is: what each answers. -/
namespace Go.Proofs.YtnjhbblhlgpgdaaDoor
open Go.RowKit Go.Shelf
set_option linter.unusedSimpArgs false
set_option linter.unusedVariables false

set_option maxRecDepth 100000 in
set_option maxHeartbeats 4000000 in
theorem xcheck_any (a : ByteArray) (N : Int) (w : World) (hO : Okw w) (ha : a.size ≤ 2000000) :
    Calls Tryd.prog 67 #[.agg #[.string a, .int .i64 N]] w fun e w' => e = .returned (.int .i64 (wchk (a, N))) ∧ Below w.heap.size w w' := by
  have c5 := fun (w : World) (hO : Okw w) => token_any a w (by omega) hO.1 hO.2
  have hR : wchk (a, N) = if tokErr a.data.toList = 0 then (if N < 1 ∨ 1073741824 < N then 2 else 0) else tokErr a.data.toList := rfl
  obtain ⟨res, hres⟩ : ∃ r, wchk (a, N) = r := ⟨_, rfl⟩
  obtain ⟨er, her⟩ : ∃ r, tokErr a.data.toList = r := ⟨_, rfl⟩
  obtain ⟨nr, hnr⟩ : ∃ r, (tokRunes a.data.toList).length = r := ⟨_, rfl⟩
  rw [hres] at hR ⊢
  rw [her] at hR
  simp only [her, hnr] at c5
  obtain ⟨a0, a1⟩ := cells2_new w (.string a) (.int .i64 N) 55
  have hal := bel_one w (.cells #[.string a, .int .i64 N] 55)
  have hlt : w.heap.size < (w.alloc (.cells #[.string a, .int .i64 N] 55)).heap.size := by simp
  obtain ⟨W1, hW1⟩ : ∃ z, w.alloc (.cells #[.string a, .int .i64 N] 55) = z := ⟨_, rfl⟩
  rw [hW1] at a0 a1 hal hlt
  obtain ⟨bx, hbx⟩ : ∃ z, w.heap.size = z := ⟨_, rfl⟩
  rw [hbx] at a0 a1 hlt
  have HW1 := Lib.hid hW1; have HBX := Lib.hid hbx; have HAL := Lib.hid hal; have C5 := Lib.hid c5; have HR := Lib.hid hR
  have HO1 : Hid (Okw W1) := Lib.hid (hO.below hal)
  clear hW1 hbx hal c5 hR hres her hnr hO
  go_enter Tryd.func67, Tryd.ntmps67
  go_wp2_with fail
  rw [HW1.out, HBX.out]
  refine (C5.out _ HO1.out).mono ?_
  rintro e w2 ⟨A, c, rfl, _, b2⟩
  have d2 := (b2.cell (p := ⟨bx, 1, none⟩) hlt).trans a1
  have B2 : Hid (Below w.heap.size w w2) := Lib.hid (HAL.out.trans (b2.mono HAL.out.size))
  clear b2 a0 a1
  by_cases h0 : er = 0
  · subst h0
    by_cases h1 : N < 1
    · have hr : Hid (res = 2) := Lib.hid (by rw [HR.out, if_pos (by first | rfl | trivial), if_pos (.inl h1)])
      go_wp2
      go_ret
      exact ⟨by rw [hr.out]; rfl, B2.out⟩
    · by_cases h2 : 1073741824 < N
      · have hr : Hid (res = 2) := Lib.hid (by rw [HR.out, if_pos (by first | rfl | trivial), if_pos (.inr h2)])
        go_wp2
        go_ret
        exact ⟨by rw [hr.out]; rfl, B2.out⟩
      · have hr : Hid (res = 0) := Lib.hid (by rw [HR.out, if_pos (by first | rfl | trivial), if_neg (by omega)])
        go_wp2
        go_ret
        exact ⟨by rw [hr.out]; rfl, B2.out⟩
  · have h0' : (er == 0) = false := by simpa using h0
    have hr : Hid (res = er) := Lib.hid (by rw [HR.out, if_neg h0])
    go_wp2
    go_ret
    exact ⟨by rw [hr.out]; rfl, B2.out⟩
set_option maxRecDepth 100000 in
set_option maxHeartbeats 8000000 in
theorem xeach_any (u : Value) (l : List Wrd) (w : World) (hO : Okw w) (hu : WRuns w u l) (hl : l.length ≤ 2000000) (hz : szW l) :
    Calls Tryd.prog 44 #[u] w fun e w' => e = .returned (.int .i64 (wall l)) ∧ Below w.heap.size w w' := by
  obtain ⟨A, c, e⟩ := hu.slice
  subst e
  have HU := Lib.hid hu; clear hu
  have HOK := Lib.hid hO; clear hO
  obtain ⟨n, hn⟩ : ∃ n, l.length = n := ⟨_, rfl⟩
  obtain ⟨res, hres⟩ : ∃ r, wall l = r := ⟨_, rfl⟩
  rw [hres]
  have HT := Lib.hid hres; clear hres
  rw [hn] at hl HU ⊢
  have HN := Lib.hid hn; clear hn
  have HZ := Lib.hid hz; clear hz
  have C5 := Lib.hid xcheck_any
  go_enter Tryd.func44, Tryd.ntmps44
  go_wp2
  go_loopw [8] (fun s8 wr => ∃ k : Nat, k ≤ n ∧ s8 = .int .i64 k ∧ Hid (wall (l.take k) = 0) ∧ Hid (Below w.heap.size w wr)) (fun s8 _ => n - (RowKit.intOf s8).toNat)
  case atStart => exact ⟨0, Nat.zero_le _, rfl, Lib.hid rfl, Lib.hid (Below.refl _ _)⟩
  case round =>
    obtain ⟨k, hkn, rfl, HC, BW⟩ := hrel
    by_cases hk : k < n
    · have k1 : (k : Int) < (n : Int) := by omega
      obtain ⟨⟨p1, p2⟩, hp⟩ : ∃ p, l[k]? = some p := ⟨_, List.getElem?_eq_getElem (by rw [HN.out]; exact hk)⟩
      obtain ⟨b, o, rfl, _, hc⟩ := (HU.out.below BW.out).cells HN.out (by omega)
      obtain ⟨g0, g1⟩ := wrd_cells hc hp
      simp only at g0 g1
      have hz1 := HZ.out _ (List.mem_of_getElem? hp)
      have hch := wall_take k _ hp HC.out
      simp only at hz1
      obtain ⟨er, her⟩ : ∃ z, wchk (p1, p2) = z := ⟨_, rfl⟩
      rw [her] at hch
      have HCH := Lib.hid hch
      have hal : Hid (Below w.heap.size w (wr.alloc (.cells #[.string p1, .int .i64 p2] 55))) := Lib.hid (BW.out.alloc BW.out.size _)
      have c5 := C5.out p1 p2 (wr.alloc (.cells #[.string p1, .int .i64 p2] 55)) (HOK.out.below hal.out) hz1
      rw [her] at c5
      have CC := Lib.hid c5
      clear hc hp hch c5 her
      go_wp2_with fail
      refine CC.out.mono ?_
      rintro e w5 ⟨rfl, b5⟩
      have B5 : Hid (Below w.heap.size w w5) := Lib.hid (hal.out.trans (b5.mono hal.out.size))
      clear b5
      by_cases h0 : er = 0
      · subst h0
        go_wp2
        exact ⟨⟨k + 1, by omega, by go_num, Lib.hid (HCH.out.1 (by first | rfl | trivial)), B5⟩, by simp [RowKit.intOf]; omega⟩
      · have h0' : (er == 0) = false := by simpa using h0
        have hr : Hid (res = er) := Lib.hid (by rw [← HT.out]; exact HCH.out.2 h0)
        go_wp2
        go_ret
        exact ⟨by rw [hr.out]; rfl, B5.out⟩
    · obtain rfl : k = n := by omega
      have hr : Hid (res = 0) := Lib.hid (by have := HC.out; rw [← HN.out, List.take_length] at this; rw [← HT.out]; exact this)
      clear HC
      go_wp2
      go_ret
      exact ⟨by rw [hr.out]; rfl, BW.out⟩
set_option maxRecDepth 100000 in
set_option maxHeartbeats 8000000 in
theorem xis_any (u : Value) (l : List Wrd) (w : World) (hO : Okw w) (hu : WRuns w u l) (hl : l.length ≤ 2000000) (hz : szW l) :
    Calls Tryd.prog 35 #[u] w fun e w' => e = .returned (.int .i64 (wisS l)) ∧ Below w.heap.size w w' := by
  have ca := xeach_any u l w hO hu hl hz
  obtain ⟨A, c, e⟩ := hu.slice
  subst e
  have HU := Lib.hid hu; clear hu
  obtain ⟨n, hn⟩ : ∃ n, l.length = n := ⟨_, rfl⟩
  have hT : wisS l = if wall l = 0 then (if ordW l then (if 65536 < n then 6 else 0) else 7) else wall l := by rw [wisS, hn]
  obtain ⟨res, hres⟩ : ∃ r, wisS l = r := ⟨_, rfl⟩
  rw [hres] at hT ⊢
  have HT := Lib.hid hT; clear hT hres
  rw [hn] at hl HU ca ⊢
  have HN := Lib.hid hn; clear hn hz
  obtain ⟨ra, hra⟩ : ∃ z, wall l = z := ⟨_, rfl⟩
  rw [hra] at ca
  have HRA := Lib.hid hra; have CA := Lib.hid ca
  clear hra ca
  go_enter Tryd.func35, Tryd.ntmps35
  go_wp2_with fail
  refine CA.out.mono ?_
  rintro e w1 ⟨rfl, b1⟩
  have BW := Lib.hid b1; clear b1
  by_cases h00 : ra = 0
  · subst h00
    have HC0 : Hid (wall l = 0) := Lib.hid HRA.out
    go_wp2
    go_loopw [4] (fun s4 wr' => ∃ j : Nat, 1 ≤ j ∧ (j ≤ n ∨ j = 1) ∧ s4 = .int .i64 j ∧ Hid (ordW (l.take j) = true) ∧ Hid (Below w.heap.size w wr')) (fun s4 _ => n - (RowKit.intOf s4).toNat)
    case atStart => exact ⟨1, Nat.le_refl _, .inr rfl, rfl, Lib.hid (ordW_one l), BW⟩
    case round =>
      obtain ⟨j, hj1, hjk, rfl, HO, BW2⟩ := hrel
      by_cases hj : j < n
      · have j1 : (j : Int) < (n : Int) := by omega
        obtain ⟨i, hi⟩ : ∃ i : Nat, (j : Int) - 1 = (i : Int) := ⟨j - 1, by omega⟩
        have ei : j = i + 1 := by omega
        have EI := Lib.hid ei
        obtain ⟨⟨y1, y2⟩, hy⟩ : ∃ p, l[i]? = some p := ⟨_, List.getElem?_eq_getElem (by rw [HN.out]; omega)⟩
        obtain ⟨⟨x1, x2⟩, hx⟩ : ∃ p, l[j]? = some p := ⟨_, List.getElem?_eq_getElem (by rw [HN.out]; omega)⟩
        have RW := Lib.hid (HU.out.below BW2.out)
        obtain ⟨b, o, rfl, hblt, hc⟩ := RW.out.cells HN.out (by omega)
        obtain ⟨g0, g1⟩ := wrd_cells hc hy
        obtain ⟨g3, g4⟩ := wrd_cells hc hx
        simp only at g0 g1 g3 g4
        have hor := ordW_take i (y1, y2) (x1, x2) hy (by rw [← ei]; exact hx) (by rw [← ei]; exact HO.out)
        obtain ⟨le, hle⟩ : ∃ z, ltK y1 x1 = z := ⟨_, rfl⟩
        simp only [hle] at hor
        unfold ltK at hle
        have HOR := Lib.hid hor
        clear hc hy hx hor ei HO
        have i0 : (0 : Int) < (j : Int) := by omega
        have i1 : (i : Int) < (n : Int) := by omega
        have hwr : IntKind.i64.wrap ((j : Int) - 1) = (i : Int) := by rw [IntKind.wrap_i64]; omega
        have hwi : IntKind.i64.wrap (i : Int) = (i : Int) := by rw [IntKind.wrap_i64]; omega
        have i2 : (0 : Int) ≤ (i : Int) := by omega
        cases le
        · have hr : Hid (res = 7) := Lib.hid (by rw [HT.out, if_pos HC0.out, if_neg (by rw [HOR.out.2 rfl]; simp)])
          go_wp2
          go_quiet (fail)
          go_wp2
          go_ret
          exact ⟨by rw [hr.out]; rfl, below_draws BW2.out _⟩
        · go_wp2
          go_quiet (fail)
          go_wp2
          exact ⟨⟨j + 1, by omega, .inl (by omega), by go_num, Lib.hid (by have := HOR.out.1 (by first | rfl | trivial); rwa [← EI.out] at this), Lib.hid (below_draws BW2.out _)⟩, by simp [RowKit.intOf]; omega⟩
      · have j1 : ¬ (j : Int) < (n : Int) := by omega
        have HO0 : Hid (ordW l = true) := Lib.hid (by have := HO.out; rwa [List.take_of_length_le (by rw [HN.out]; omega)] at this)
        clear HO BW
        by_cases hbig : 65536 < n
        · have hb1 : (65536 : Int) < (n : Int) := by omega
          have hr : Hid (res = 6) := Lib.hid (by rw [HT.out, if_pos HC0.out, if_pos HO0.out, if_pos hbig])
          go_wp2
          go_ret
          exact ⟨by rw [hr.out]; rfl, BW2.out⟩
        · have hb1 : ¬ (65536 : Int) < (n : Int) := by omega
          have hr : Hid (res = 0) := Lib.hid (by rw [HT.out, if_pos HC0.out, if_pos HO0.out, if_neg hbig])
          go_wp2
          go_ret
          exact ⟨by rw [hr.out]; rfl, BW2.out⟩
  · have h00' : (ra == 0) = false := by simpa using h00
    have hr : Hid (res = ra) := Lib.hid (by rw [HT.out, HRA.out, if_neg h00])
    go_wp2
    go_ret
    exact ⟨by rw [hr.out]; rfl, BW.out⟩
end Go.Proofs.YtnjhbblhlgpgdaaDoor

/- lexicon.Normal: words that may be, each once, in order; Best: the most frequent ones. -/
namespace Go.Proofs.YtnjhbblhlgpgdaaDoor
open Go.RowKit Go.Shelf Go.Lib
set_option linter.unusedSimpArgs false
set_option linter.unusedVariables false

set_option maxRecDepth 100000 in
set_option maxHeartbeats 8000000 in
theorem xnormal_any (u : Value) (l : List Wrd) (w : World) (hO : Okw w) (hu : WRuns w u l) (hl : l.length ≤ 2000000) (hz : szW l) :
    Calls Tryd.prog 25 #[u] w fun e w' => ∃ v, e = .returned (.tuple #[v, .int .i64 (worE l)]) ∧ WRuns w' v (worS l) ∧ Below w.heap.size w w' := by
  have ce := xeach_any u l w hO hu hl hz
  have hE : worE l = if wall l = 0 then (if 65536 < (nrmW l).length then 6 else 0) else wall l := rfl
  have hS : worS l = if worE l = 0 then nrmW l else [] := rfl
  have ct := fun (h : wall l = 0) w hu => xtog_loop u l w hu hl (frB_of h)
  have hzn : szW (nrmW l) := fun b hb => by
    obtain ⟨y, hy, e⟩ := nrmW_keys l b hb
    rw [e]; exact hz y hy
  have hln := nrmW_len l
  have cr := fun v w hv => xrenewed_any v (nrmW l) w hv (by omega) hzn
  obtain ⟨A, c, e⟩ := hu.slice
  obtain ⟨ea, hea⟩ : ∃ z, wall l = z := ⟨_, rfl⟩
  obtain ⟨X, hX⟩ : ∃ z, nrmW l = z := ⟨_, rfl⟩
  obtain ⟨er, her⟩ : ∃ z, worE l = z := ⟨_, rfl⟩
  obtain ⟨Y, hY⟩ : ∃ z, worS l = z := ⟨_, rfl⟩
  rw [her] at hE hS ⊢
  rw [hY] at hS ⊢
  rw [hea, hX] at hE
  rw [hX] at hS hln
  simp only [hea, hX] at ct
  simp only [hX] at cr
  rw [hea] at ce
  obtain ⟨m, hm⟩ : ∃ m, X.length = m := ⟨_, rfl⟩
  rw [hm] at hE hln
  simp only [hm] at cr
  obtain ⟨n, hn⟩ : ∃ n, l.length = n := ⟨_, rfl⟩
  rw [hn] at hln hl e
  subst e
  have CE := Lib.hid ce; have HU := Lib.hid hu; have HE := Lib.hid hE; have HS := Lib.hid hS; have CT := Lib.hid ct; have CR := Lib.hid cr; have HM := Lib.hid hm
  clear ce hu hE hS ct cr hea hX her hY hn hm hO hz hzn
  go_enter Tryd.func25, Tryd.ntmps25
  go_wp2_with fail
  refine CE.out.mono ?_
  rintro e w1 ⟨rfl, b1⟩
  have U1 := Lib.hid (HU.out.below b1)
  have B1 := Lib.hid b1
  clear b1
  by_cases h0 : ea = 0
  · subst h0
    have ct := CT.out (by first | rfl | trivial)
    have CT' := Lib.hid ct; clear ct CT
    have hE2 : Hid (er = if 65536 < m then 6 else 0) := Lib.hid (by rw [HE.out, if_pos (by first | rfl | trivial)])
    clear HE CE
    go_wp2_with fail
    refine (CT'.out _ U1.out).mono ?_
    rintro e w2 ⟨v, rfl, r2, b2⟩
    obtain ⟨A2, c2, e2⟩ := r2.slice
    rw [HM.out] at e2
    subst e2
    have R2 := Lib.hid r2
    have B2 : Hid (Below w.heap.size w w2) := Lib.hid (B1.out.trans (b2.mono B1.out.size))
    clear r2 b2
    by_cases hbig : 65536 < m
    · have hb1 : (65536 : Int) < (m : Int) := by omega
      have hEr : er = 6 := by rw [hE2.out, if_pos hbig]
      subst hEr
      have hYs : Hid (Y = []) := Lib.hid (by rw [HS.out]; simp)
      go_wp2
      go_ret2
      exact ⟨.slice none 0 0, rfl, by rw [hYs.out]; exact GRuns.nil_ _ _ _, B2.out⟩
    · have hb1 : ¬ (65536 : Int) < (m : Int) := by omega
      have hEr : er = 0 := by rw [hE2.out, if_neg hbig]
      subst hEr
      have hYs : Hid (Y = X) := Lib.hid (by rw [HS.out]; simp)
      go_wp2_with fail
      refine (CR.out _ _ R2.out).mono ?_
      rintro e w3 ⟨v3, rfl, o3, b3⟩
      have R3 := Lib.hid (GRuns.of_own wrd_ln HM.out o3)
      have B3 : Hid (Below w.heap.size w w3) := Lib.hid (B2.out.trans (b3.mono B2.out.size))
      clear o3 b3
      go_wp2
      go_ret2
      exact ⟨v3, rfl, by rw [hYs.out]; exact R3.out, B3.out⟩
  · have h0' : (ea == 0) = false := by simpa using h0
    have hEr : er = ea := by rw [HE.out, if_neg h0]
    subst hEr
    have hYs : Hid (Y = []) := Lib.hid (by rw [HS.out, if_neg h0])
    go_wp2
    go_ret2
    exact ⟨.slice none 0 0, rfl, by rw [hYs.out]; exact GRuns.nil_ _ _ _, B1.out⟩
end Go.Proofs.YtnjhbblhlgpgdaaDoor

/- great, alive of layer 9: which words are looked at; the document's example. -/
namespace Go.Proofs.YtnjhbblhlgpgdaaDoor
open Go.RowKit Go.Shelf
set_option linter.unusedSimpArgs false
set_option linter.unusedVariables false

/-- Texts together. -/
def smW (l : List Wrd) : Nat := (l.map (fun b => b.1.size)).sum
theorem smW_take {l : List Wrd} (k : Nat) (x : Wrd) (h : l[k]? = some x) : smW (l.take (k + 1)) = smW (l.take k) + x.1.size := by
  rw [List.take_add_one, h]; simp [smW]
theorem smW_mem (l : List Wrd) : ∀ b ∈ l, b.1.size ≤ smW l := by
  induction l with
  | nil => simp
  | cons a l ih =>
    intro b hb
    have e : smW (a :: l) = a.1.size + smW l := by simp [smW]
    rw [e]
    rcases List.mem_cons.1 hb with rfl | hb
    · omega
    · have := ih b hb; omega
theorem smW_le {l : List Wrd} {c : Nat} (h : ∀ b ∈ l, b.1.size ≤ c) (k : Nat) : smW (l.take k) ≤ k * c := by
  induction k with
  | zero => simp [smW]
  | succ k ih =>
    cases hx : l[k]? with
    | none =>
      rw [List.take_add_one, hx]
      simp only [Option.toList_none, List.append_nil]
      rw [Nat.succ_mul]; omega
    | some x =>
      have := h x (List.mem_of_getElem? hx)
      rw [smW_take k x hx, Nat.succ_mul]; omega
/-- Texts as long as a text may be. -/
def szMW (l : List Wrd) : Prop := ∀ b ∈ l, b.1.size ≤ 140737488355328
/-- Whether words are more than are looked at. -/
def grW (l : List Wrd) : Bool := decide (500 < l.length) || decide (8000 < smW l)
theorem grW_no {l : List Wrd} (h : grW l = false) : l.length ≤ 500 ∧ szW l := by
  unfold grW at h
  rw [Bool.or_eq_false_iff] at h
  have h1 := of_decide_eq_false h.1
  have h2 := of_decide_eq_false h.2
  exact ⟨by omega, fun b hb => by have := smW_mem l b hb; omega⟩
theorem ex9 : worE [(⟨#[98]⟩, 1), (⟨#[97]⟩, 2), (⟨#[98]⟩, 3)] = 0 ∧ worS [(⟨#[98]⟩, 1), (⟨#[97]⟩, 2), (⟨#[98]⟩, 3)] = [(⟨#[97]⟩, 2), (⟨#[98]⟩, 4)] := by
  decide +kernel
theorem ex9c : wchk (⟨#[]⟩, 0) = 4 := by decide +kernel
end Go.Proofs.YtnjhbblhlgpgdaaDoor

/- What every law's proof needs around its walk: the arguments read as they did wherever old memory is kept; a world for the witness; what the listed tables give. -/
namespace Go.Proofs.YtnjhbblhlgpgdaaDoor
open Go.ChangeShapes Go.WideShapes Go.ChangeAt Go.RowKit Go.Shelf

theorem own : ownKnob Tryd.prog.godebug = none := by kernel_rfl
theorem laidOut : laidOutB Tryd.prog = true := by kernel_rfl

theorem trodAll_below {H : Type} {enc : TypeId × Value → H} {P : Program} (hl : laidOutB P = true) {W W' : World} (hb : Below W.heap.size W W') :
    ∀ (ts : List TypeId) (vs : List Value) (ds : List (DataW H)) (ps : List MemPlace), (∀ t ∈ ts, P.readableRec t = true ∧ t < P.types.size) → (∀ x ∈ ps, x.block < W.heap.size) →
      DataW.TrodAll enc P W 0 (fun _ => true) true ts vs ds ps → DataW.TrodAll enc P W' 0 (fun b => decide (b < W.heap.size)) true ts vs ds ps
  | [], vs, ds, ps, _, _, h => by
    obtain ⟨rfl, rfl, rfl⟩ := trodAll_nil h
    exact trodAll_mk0
  | t :: ts, vs, ds, ps, ht, hp, h => by
    obtain ⟨v0, vs0, d0, ds0, p0, q0, rfl, rfl, rfl, h0, r0⟩ := trodAll_cons h
    exact trodAll_cons_mk (Below.trod hl (ht t (by simp)).1 (ht t (by simp)).2 h0 hb (fun x hx => hp x (by simp [hx]))) (trodAll_below hl hb ts vs0 ds0 q0 (fun t' h' => ht t' (by simp [h'])) (fun x hx => hp x (by simp [hx])) r0)

theorem cells32 : Tryd.prog.cellsOf 21 = 1 := by kernel_rfl
set_option maxRecDepth 100000 in
/-- An argument of type []int32 reads as a list of numbers of that kind. -/
theorem runs_of_arg {H : Type} {enc : TypeId × Value → H} {W : World} {base : Nat} {v : Value} {d : DataW H} {p : List MemPlace} (hv : Value.okWide Tryd.prog W .any base 63 v) (h : DataW.Trod enc Tryd.prog W 0 (fun _ => true) true 63 v d p) :
    ∃ a : List Int, Runs W v a ∧ ∀ x ∈ a, -2147483648 ≤ x ∧ x ≤ 2147483647 := by
  obtain ⟨a0, len, cap, rfl⟩ := okWide_slice Tryd.underlying63 hv
  obtain ⟨fuel, hf⟩ := h
  rcases open_ints Tryd.underlying63 Tryd.underlying21 cells32 hf with ⟨hcs, _⟩ | ⟨a, len', cap', zs, hcs, _, hl, hm, hz, _, hcell, hwz⟩
  · have e : Value.slice a0 len cap = .slice none 0 0 := by simpa [Value.cells] using hcs
    rw [e]
    exact ⟨[], Runs.nil_ _, by simp⟩
  · have e : Value.slice a0 len cap = .slice (some a) len' cap' := by simpa [Value.cells] using hcs
    rw [e]
    simp only [if_true] at hz
    have hlen : (zs.take len').length = len' := by rw [List.length_take]; omega
    refine ⟨zs.take len', ⟨some a, cap', by rw [hlen], by omega, ⟨hm, fun h => by cases h⟩, fun h0 => ?_⟩, fun x hx => bounds_i32 (hwz x (List.mem_of_mem_take hx))⟩
    obtain ⟨b, off, rfl, hc⟩ := ints_at hcell (by omega)
    have h00 := hc 0 (by omega)
    refine ⟨b, off, rfl, ?_, fun j hj => ?_⟩
    · rcases Nat.lt_or_ge b W.heap.size with h' | h'
      · exact h'
      · simp [World.cell?, Array.getElem?_eq_none h'] at h00
    · rw [hc j (by omega)]
      simp only [List.getD_eq_getElem?_getD, List.getElem?_take]
      rw [if_pos (by omega)]

/-- A law that answered true and changed nothing old has its row's post. -/
theorem law_post {H : Type} {enc : TypeId × Value → H} {P : Program} {f : Func} {s : ChangeSpec} {W W' : World} {args : Array Value} {ds gs : List (DataW H)} {before : List MemPlace} {tb : TypeId}
    (hl : laidOutB P = true) (hts : ∀ t ∈ f.params.toList, P.readableRec t = true ∧ t < P.types.size) (hW : DataW.Whole enc P f.params.toList s.vars false W args.toList ds gs before) (hb : Below W.heap.size W W')
    (hbool : P.underlying tb = some .bool) (hrt : f.resultTypes = #[tb]) (hs : s.vars = []) (h1 : (s.fn H (ds ++ gs)).results = [.lit (.bool true)]) (h2 : (s.fn H (ds ++ gs)).args = ds) (h3 : (s.fn H (ds ++ gs)).vars = []) :
    s.post enc P f false true false false W args (.bool true) W' := by
  have hW' := hW
  obtain ⟨p, q, hA, hV, hbef, _, _⟩ := hW
  have hlt : ∀ x ∈ p, x.block < W.heap.size := fun x hx => hW'.lt x (by rw [hbef]; simp [hx])
  refine ⟨ds, gs, before, [], p, [], hW', ?_, ?_, ?_, hb.frame _, fun h => by cases h⟩
  · rw [hrt, h1]; exact trodAll_cons_mk (shut_bool hbool _) trodAll_mk0
  · rw [h2]; exact trodAll_below hl hb _ _ _ _ hts hlt hA
  · rw [hs, h3]; rfl

/-- The list of variables that every row of this seat bears. -/
def laidList : List (String × DataW Unit) := [("unicode/utf8.acceptRanges", Rows.laid_unicode_utf8_acceptRanges), ("unicode/utf8.first", Rows.laid_unicode_utf8_first)]
theorem accept_same : (Rows.laid_unicode_utf8_acceptRanges : DataW Unit) = Lib.acceptData := by kernel_rfl
theorem first_same : Rows.laid_unicode_utf8_first = Lib.firstData := by kernel_rfl

theorem okw_of_laid {W : World} (hL : laidMetH Tryd.prog laidList W) : Okw W := by
  have h : laidMet Tryd.prog laidList W := hL
  have ht : Tabs W := utf8Tabs_of_readsT (U8Types.of260 Tryd.lays260) ⟨by kernel_rfl, by kernel_rfl, by kernel_rfl, by kernel_rfl, by kernel_rfl, by kernel_rfl, by kernel_rfl⟩
    (by have := Lib.laidMet.reads h (n := "unicode/utf8.first") (d := Rows.laid_unicode_utf8_first) (by simp [laidList]); rwa [first_same] at this)
    (by have := Lib.laidMet.reads h (n := "unicode/utf8.acceptRanges") (d := Rows.laid_unicode_utf8_acceptRanges) (by simp [laidList]); rwa [accept_same] at this)
  have lt : ∀ {a : Addr} {v : Value}, W.cell? a = some v → a.block < W.heap.size := fun {a v} hc => by
    rcases Nat.lt_or_ge a.block W.heap.size with h' | h'
    · exact h'
    · simp [World.cell?, Array.getElem?_eq_none h'] at hc
  exact ⟨ht, lt (ht.1 0 (by decide)), lt (ht.2 0 (by decide)).1⟩

def putCells (cs : Array Value) : Obj → Obj
  | .cells _ t frozen => .cells cs t frozen
  | o => o
/-- A world for the witness: the settled one, the two tables as their initialisers lay them. -/
noncomputable def laidWorld (os : Os) : World :=
  { World.holding Tryd.prog os ⟨#[], #[], []⟩ with heap := ((World.holding Tryd.prog os ⟨#[], #[], []⟩).heap.modify 1 (putCells (Lib.firstTab.map fun z => Value.int .u8 z).toArray)).modify 2 (putCells ((List.range 16).flatMap fun i => [Value.int .u8 (Lib.accLo i), Value.int .u8 (Lib.accHi i)]).toArray) }
theorem laid_met (os : Os) (args : Array Value) : laidMet Tryd.prog laidList ((laidWorld os).forCall (fun _ _ => 0) ⟨#[], args, []⟩).memory :=
  laidMet_of_run' 8 (by kernel_rfl) (by kernel_rfl)
end Go.Proofs.YtnjhbblhlgpgdaaDoor

/- Arguments of layer 9 opened: a slice of words, a word by value, what is asked, by value. -/
namespace Go.Proofs.YtnjhbblhlgpgdaaDoor
open Go.ChangeShapes Go.WideShapes Go.ChangeAt Go.RowKit Go.Shelf Go.Deep Go.Joins
set_option linter.unusedSimpArgs false
set_option linter.unusedVariables false

theorem wrdFields : ∃ f0 f1 : Field, Tryd.prog.underlying 55 = some (.struct #[f0, f1]) ∧ f0.type = 9 ∧ f0.offset = 0 ∧ f1.type = 3 ∧ f1.offset = 1 :=
  ⟨_, _, Tryd.underlying55, rfl, rfl, rfl, rfl⟩
theorem cellsWrd9 : Tryd.prog.cellsOf 55 = 2 := by kernel_rfl
theorem cellsInt9 : Tryd.prog.cellsOf 3 = 1 := by kernel_rfl
theorem cellsStr9 : Tryd.prog.cellsOf 9 = 1 := by kernel_rfl
def wrdD {H : Type} (b : Wrd) : DataW H := .agg [.lit (.string b.1.data.toList), .lit (.int .i64 b.2)]
set_option maxRecDepth 100000 in
theorem wrd_of_cells {H : Type} {enc : TypeId × Value → H} {W : World} {fuel : Nat} {cs : List Value} {x : DataW H × List MemPlace} (h : DataW.trod enc Tryd.prog W 0 (fun _ => true) true fuel 55 cs = some x) : ∃ p : Wrd, cs = wrdCell p ∧ x.1 = wrdD p := by
  obtain ⟨f0, f1, hu, t0, o0, t1, o1⟩ := wrdFields
  obtain ⟨xs, n, _, hx, hlen, hxl, hf⟩ := DataW.trod_struct hu h
  rw [cellsWrd9] at hlen
  have h0 := hf 0 f0 rfl
  have h1 := hf 1 f1 rfl
  rw [t0, o0, cellsStr9] at h0
  rw [t1, o1, cellsInt9] at h1
  have hx3 : xs.length = 2 := hxl
  match cs, hlen, xs, hx3 with
  | [c0, c1], _, [x0, x1], _ =>
    obtain ⟨a0, e0, d0, _⟩ := DataW.trod_string Tryd.underlying9 h0
    obtain ⟨a1, e1, d1, _⟩ := DataW.trod_int Tryd.underlying3 h1
    simp at e0 e1 d0 d1
    refine ⟨(a0, a1), by rw [e0, e1]; rfl, ?_⟩
    rw [hx]
    simp [wrdD, d0, d1]
/-- A slice of structs, read. -/
theorem gruns_of_trod9 {H : Type} {enc : TypeId × Value → H} {W : World} {fuel : Nat} {v : Value} {x : DataW H × List MemPlace} {tS tE : TypeId} {α : Type} (z : α) {cell : α → List Value} {dat : α → DataW H} {k : Nat} (hk0 : 0 < k) (hU : Tryd.prog.underlying tS = some (.slice tE)) (hcl : Tryd.prog.cellsOf tE = k) (hln : ∀ p, (cell p).length = k)
    (hone : ∀ {fuel : Nat} {cs : List Value} {x : DataW H × List MemPlace}, DataW.trod enc Tryd.prog W 0 (fun _ => true) true fuel tE cs = some x → ∃ p, cs = cell p ∧ x.1 = dat p)
    (h : DataW.trod enc Tryd.prog W 0 (fun _ => true) true fuel tS [v] = some x) : ∃ l : List α, GRuns cell k W v l ∧ ((x.1 = .nil ∧ l = []) ∨ ∃ sp, x.1 = .slice (l.map dat) sp) := by
  rcases open_slice hU h with ⟨h0, hx⟩ | ⟨a, len, cap, m, n, D, Pl, hcs, _, hl, hm, hmm, hx, hi⟩
  · obtain rfl : v = .slice none 0 0 := by simpa using h0
    exact ⟨[], GRuns.nil_ _ _ _, .inl ⟨by rw [hx], rfl⟩⟩
  · obtain rfl : v = .slice (some a) len cap := by simpa using hcs
    simp only [if_true] at hmm
    subst hmm
    have hex : ∀ i, i < len → ∃ p : α, (∀ j, j < k → W.cell? (a.add (i * k + j)) = (cell p)[j]?) ∧ D i = dat p := by
      intro i hil
      obtain ⟨cs', hc, ht⟩ := hi i (by omega)
      rw [hcl] at hc
      obtain ⟨p, rfl, hd⟩ := hone ht
      obtain ⟨_, _, hat⟩ := World.cells?_some hc
      exact ⟨p, fun j hj => by rw [← Go.Deep.add_add]; exact hat j hj, hd⟩
    obtain ⟨f, hf⟩ : ∃ f : Nat → α, ∀ i, i < len → (∀ j, j < k → W.cell? (a.add (i * k + j)) = (cell (f i))[j]?) ∧ D i = dat (f i) := by
      refine ⟨fun i => if hi : i < len then Classical.choose (hex i hi) else z, fun i hi => ?_⟩
      simp only [hi, dif_pos]
      exact Classical.choose_spec (hex i hi)
    have hll : ((List.range len).map f).length = len := by simp
    refine ⟨(List.range len).map f, ⟨some a, _, by rw [hll], by rw [hll]; exact hl, ⟨hm, fun h => by cases h⟩, fun hp => ?_⟩, .inr ⟨(List.range (m - len)).map fun j => D (len + j), ?_⟩⟩
    · rw [hll] at hp
      obtain ⟨b, off, spot⟩ := a
      have hc0 : 0 < (cell (f 0)).length := by rw [hln]; exact hk0
      have h00 := (hf 0 hp).1 0 hk0
      rw [List.getElem?_eq_getElem hc0] at h00
      have hspot : spot = none := by simpa [Addr.add] using World.cell?_spot h00
      subst hspot
      have hblt : b < W.heap.size := by
        have := World.block_lt_of_cell? W _ h00
        simpa [Addr.add] using this
      refine ⟨b, off, rfl, hblt, fun j x hj i u hu => ?_⟩
      have hjl : j < len := by have := (List.getElem?_eq_some_iff.1 hj).1; rwa [hll] at this
      have hxe : f j = x := by
        rw [List.getElem?_map, List.getElem?_range hjl] at hj
        simpa using hj
      have hik : i < k := by have := (List.getElem?_eq_some_iff.1 hu).1; rwa [hln] at this
      have h1 := (hf j hjl).1 i hik
      rw [hxe, hu, addr_add] at h1
      rw [Nat.add_assoc]
      exact h1
    · rw [hx]
      have e : (List.range len).map D = ((List.range len).map f).map dat := by
        rw [List.map_map]
        exact List.map_congr_left (fun i hi => (hf i (List.mem_range.1 hi)).2)
      rw [e]
theorem words_of_trod {H : Type} {enc : TypeId × Value → H} {W : World} {fuel : Nat} {v : Value} {x : DataW H × List MemPlace} (h : DataW.trod enc Tryd.prog W 0 (fun _ => true) true fuel 22 [v] = some x) :
    ∃ l : List Wrd, WRuns W v l ∧ ((x.1 = .nil ∧ l = []) ∨ ∃ sp, x.1 = .slice (l.map wrdD) sp) :=
  gruns_of_trod9 (ByteArray.empty, 0) (by decide) Tryd.underlying22 cellsWrd9 (fun _ => rfl) (fun h => wrd_of_cells h) h
set_option maxRecDepth 100000 in
theorem words_of_arg {H : Type} {enc : TypeId × Value → H} {W : World} {base : Nat} {v : Value} {d : DataW H} {p : List MemPlace} (hv : Value.okWide Tryd.prog W .any base 22 v) (h : DataW.Trod enc Tryd.prog W 0 (fun _ => true) true 22 v d p) :
    ∃ l : List Wrd, WRuns W v l ∧ ((d = .nil ∧ l = []) ∨ ∃ sp, d = .slice (l.map wrdD) sp) := by
  obtain ⟨a0, len, cap, rfl⟩ := okWide_slice Tryd.underlying22 hv
  obtain ⟨fuel, hf⟩ := h
  exact words_of_trod hf
/-- The form's own bound on each text. -/
theorem words_weights {H : Type} {d : DataW H} {l : List Wrd} (hd : (d = .nil ∧ l = []) ∨ ∃ sp, d = .slice (l.map wrdD) sp) (hw : (DataW.weights Tryd.prog 22 d).all (· ≤ reachBytes) = true) : szMW l := by
  have h3 : reachBytes = 140737488351232 := by decide
  rcases hd with ⟨_, rfl⟩ | ⟨sp, rfl⟩
  · exact fun b hb => by simp at hb
  simp only [DataW.weights, Tryd.underlying22, List.all_cons, List.all_append, Bool.and_eq_true] at hw
  have hw2 := hw.2.1
  clear hw
  induction l with
  | nil => exact fun b hb => by simp at hb
  | cons a l ih =>
    simp only [List.map_cons, DataW.weightsAll, List.all_append, Bool.and_eq_true] at hw2
    have h1 := hw2.1
    simp only [wrdD, DataW.weights, Tryd.underlying55, List.map_cons, List.map_nil, DataW.weightsEach, List.all_append, List.all_cons, List.all_nil, Bool.and_true, Bool.and_eq_true, decide_eq_true_eq, h3] at h1
    intro b hb
    rcases List.mem_cons.1 hb with rfl | hb
    · rw [Lib.size_eq]; omega
    · exact ih hw2.2 b hb
set_option maxRecDepth 100000 in
theorem wrd_of_arg {H : Type} {enc : TypeId × Value → H} {W : World} {base : Nat} {v : Value} {d : DataW H} {p : List MemPlace} (hv : Value.okWide Tryd.prog W .any base 55 v) (h : DataW.Trod enc Tryd.prog W 0 (fun _ => true) true 55 v d p) :
    ∃ b : Wrd, v = .agg #[.string b.1, .int .i64 b.2] ∧ d = .agg [.lit (.string b.1.data.toList), .lit (.int .i64 b.2)] := by
  obtain ⟨j0, j1, y0, y1, nn, rfl, rfl, _, g0, g1⟩ := open_agg2 Tryd.underlying55 (by kernel_rfl) (by kernel_rfl) hv h
  obtain ⟨a0, e0, e0', _⟩ := DataW.trod_string Tryd.underlying9 g0
  obtain ⟨a1, e1, e1', _⟩ := DataW.trod_int Tryd.underlying3 g1
  obtain rfl : j0 = .string a0 := by simpa using e0
  obtain rfl : j1 = .int .i64 a1 := by simpa using e1
  exact ⟨(a0, a1), rfl, by rw [e0', e1']⟩
theorem wrd_weights {H : Type} {b : Wrd} (hw : (DataW.weights (H := H) Tryd.prog 55 (.agg [.lit (.string b.1.data.toList), .lit (.int .i64 b.2)])).all (· ≤ reachBytes) = true) : b.1.size ≤ 140737488355328 := by
  have h3 : reachBytes = 140737488351232 := by decide
  simp only [DataW.weights, Tryd.underlying55, List.map_cons, List.map_nil, DataW.weightsEach, List.all_append, List.all_cons, List.all_nil, Bool.and_true, Bool.and_eq_true, decide_eq_true_eq, h3] at hw
  rw [Lib.size_eq]; omega
/-- The second form's bound. -/
theorem words_bulk {H : Type} {d : DataW H} {l : List Wrd} (hd : (d = .nil ∧ l = []) ∨ ∃ sp, d = .slice (l.map wrdD) sp) (hw : Rows.uptoBulk d ≤ 1048576) : l.length ≤ 2000000 ∧ szW l := by
  rcases hd with ⟨_, rfl⟩ | ⟨sp, rfl⟩
  · exact ⟨by simp, fun b hb => by simp at hb⟩
  simp only [Rows.uptoBulk] at hw
  have key : ∀ l : List Wrd, l.length ≤ Rows.uptoBulkAll (l.map (wrdD (H := H))) ∧ ∀ b ∈ l, b.1.size ≤ Rows.uptoBulkAll (l.map (wrdD (H := H))) := by
    intro l
    induction l with
    | nil => exact ⟨by simp, fun b hb => by simp at hb⟩
    | cons a l ih =>
      have e : Rows.uptoBulkAll ((a :: l).map (wrdD (H := H))) = a.1.data.toList.length + 1 + (1 + 0) + 1 + Rows.uptoBulkAll (l.map (wrdD (H := H))) := rfl
      rw [e, List.length_cons]
      refine ⟨by have := ih.1; omega, fun b hb => ?_⟩
      rcases List.mem_cons.1 hb with rfl | hb
      · rw [Lib.size_eq]; omega
      · have := ih.2 b hb; omega
  obtain ⟨k1, k2⟩ := key l
  exact ⟨by omega, fun b hb => by have := k2 b hb; omega⟩
end Go.Proofs.YtnjhbblhlgpgdaaDoor

